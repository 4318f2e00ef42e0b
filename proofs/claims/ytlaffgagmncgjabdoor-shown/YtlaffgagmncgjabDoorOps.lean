import Derived.Test.YtlaffgagmncgjabDoorBase
import Derived.Laws.AppendOwn
import Derived.Laws.BytesString
namespace Go.Pat
open Go
abbrev TK:=Sum IntKind (Sum Bool (Sum TypeId (Sum TypeId (Sum (List (Nat × TypeId)) (Nat × TypeId)))))
abbrev TK.int (k:IntKind):TK:=.inl k
abbrev TK.bool:TK:=.inr (.inl true)
abbrev TK.string:TK:=.inr (.inl false)
abbrev TK.ptr (e:TypeId):TK:=.inr (.inr (.inl e))
abbrev TK.slice (e:TypeId):TK:=.inr (.inr (.inr (.inl e)))
abbrev TK.struct (fs:List (Nat × TypeId)):TK:=.inr (.inr (.inr (.inr (.inl fs))))
abbrev TK.array (len:Nat) (e:TypeId):TK:=.inr (.inr (.inr (.inr (.inr (len,e)))))
structure TI where
 size:Nat
 bytes:Nat
 zero:Value
 kind:TK
abbrev Tab:=List (Nat × TI)
def Tab.get? : Tab→Nat→Option TI
 | [],_=>none
 | (i,v)::r,t=>cond (Nat.beq i t) (some v) (Tab.get? r t)
def TK.fits (k:TK) (d:Option TypeDesc):Prop :=
 match k with
 | .inl k=>d=some (.int k)
 | .inr (.inl true)=>d=some .bool
 | .inr (.inl false)=>d=some .string
 | .inr (.inr (.inl e))=>d=some (.pointer e)
 | .inr (.inr (.inr (.inl e)))=>d=some (.slice e)
 | .inr (.inr (.inr (.inr (.inl fs))))=>∃ fields:Array Field,d=some (.struct fields)∧fields.toList.map (fun f=>(f.offset,f.type))=fs
 | .inr (.inr (.inr (.inr (.inr (n,e)))))=>d=some (.array n e)
def TI.fits (P:Program) (t:TypeId) (i:TI):Prop :=
 (∃ info,P.info? t=some info∧info.size=i.size∧info.bytes=i.bytes∧info.zero=some i.zero)∧i.kind.fits (P.underlying t)
def Tab.ok (P:Program) (T:Tab):Prop:=∀ p∈T,p.2.fits P p.1
theorem Tab.fits {P:Program} {T:Tab} (hT:T.ok P) {t:Nat} {i:TI} (ht:T.get? t=some i):i.fits P t:=by
 induction T with
 | nil=>simp [Tab.get?] at ht
 | cons p r ih =>
  obtain ⟨j,v⟩:=p
  simp only [Tab.get?] at ht
  cases hb:Nat.beq j t
  ·rw [hb] at ht;exact ih (fun q hq=>hT q (List.mem_cons_of_mem _ hq)) ht
  ·rw [hb] at ht
   have:=Nat.eq_of_beq_eq_true hb
   subst this
   cases ht
   exact hT _ (List.mem_cons_self)
def str (l:List UInt8):ByteArray:=⟨l.toArray⟩
theorem str_size (l:List UInt8):(str l).size=l.length:=by simp [str,ByteArray.size]
theorem toList_data (s:ByteArray):str s.data.toList=s:=by cases s;simp [str]
def cellAt (h:Heap) (b o:Nat):Option Value :=
 match h[b]? with
 | some (.cells c _ _)=>c[o]?
 | _=>none
def soft (h:Heap) (b:Nat):Prop:=∃ c e,h[b]? = some (.cells c e (0,0))
theorem cell?_eq {w:World} {h:Heap} (hw:w.heap=h) (b o:Nat):w.cell? ⟨b,o,none⟩=cellAt h b o:=by
 subst hw;simp [World.cell?,cellAt];rfl
def Cells (h:Heap) (b o:Nat) (l:List Value):Prop:=∀ j v,l[j]? = some v→cellAt h b (o+j)=some v
theorem Cells.nil (h:Heap) (b o:Nat):Cells h b o []:=fun _ _ hj=>by simp at hj
theorem Cells.cons {h:Heap} {b o:Nat} {v:Value} {l:List Value} (hv:cellAt h b o=some v) (hl:Cells h b (o+1) l):Cells h b o (v::l):=fun j u hj=>by
 cases j with
 | zero=>simp at hj;subst hj;simpa using hv
 | succ j=>simp at hj;have:=hl j u hj;rw [Nat.add_assoc,Nat.add_comm 1 j] at this;exact this
theorem Cells.head {h:Heap} {b o:Nat} {v:Value} {l:List Value} (hl:Cells h b o (v::l)):cellAt h b o=some v:=hl 0 v rfl
theorem Cells.tail {h:Heap} {b o:Nat} {v:Value} {l:List Value} (hl:Cells h b o (v::l)):Cells h b (o+1) l:=fun j u hj=>by
 have:=hl (j+1) u (by simpa using hj);rw [Nat.add_assoc,Nat.add_comm 1 j];exact this
section
variable {P:Program} {n:Nat} {env:Env} {h:Heap} {o:Oper} {T:Tab}
theorem ov_move {x:Operand} {v:Value} (ho:o.op = .move x) (hx:env.ev? x=some v):OpVal P n env o h v:=fun w a _ ha=>by
 simp only [execOp,ho,ha.ev hx];rfl
theorem ov_assign {x:Operand} {v:Value} (ho:o.op = .assign x) (hx:env.ev? x=some v):OpVal P n env o h v:=fun w a _ ha=>by
 simp only [execOp,ho,ha.ev hx];rfl
theorem ov_pick_true {c x y:Operand} {v:Value} (ho:o.op = .pick c x y) (hc:env.ev? c=some (.bool true)) (hx:env.ev? x=some v):OpVal P n env o h v:=fun w a _ ha=>by
 simp only [execOp,ho,ha.ev hx,ha.ev hc];rfl
theorem ov_pick_false {c x y:Operand} {v:Value} (ho:o.op = .pick c x y) (hc:env.ev? c=some (.bool false)) (hx:env.ev? y=some v):OpVal P n env o h v:=fun w a _ ha=>by
 simp only [execOp,ho,ha.ev hx,ha.ev hc];rfl
theorem ov_nil {x:Operand} {ad:Addr} (ho:o.op = .nilCheck x) (hx:env.ev? x=some (.pointer (some ad))):OpVal P n env o h (.pointer (some ad)):=fun w a _ ha=>by
 simp only [execOp,ho,ha.ev hx];rfl
theorem ov_extract {x:Operand} {vs:List Value} {i:Nat} {v:Value} (ho:o.op = .extract x i) (hx:env.ev? x=some (.tuple vs.toArray)) (hi:vs[i]? = some v):OpVal P n env o h v:=fun w a _ ha=>by
 simp [execOp,ho,ha.ev hx,Instr.extract,hi]
theorem ov_not {x:Operand} {t:TypeId} {b:Bool} (ho:o.op = .unOp .not t x) (hx:env.ev? x=some (.bool b)):OpVal P n env o h (.bool (!b)):=fun w a _ ha=>by
 simp [execOp,ho,ha.ev hx,Op.unary]
def inK (k:IntKind) (x:Int):Prop:=k.wrap x=x
theorem in_i64 {x:Int} (h1:-9223372036854775808≤x) (h2:x≤9223372036854775807):inK .i64 x:=by
 unfold inK IntKind.wrap;simp [IntKind.signed,IntKind.bits];omega
theorem in_u8 {x:Int} (h1:0≤x) (h2:x≤255):inK .u8 x:=by
 unfold inK IntKind.wrap;simp [IntKind.signed,IntKind.bits];omega
theorem run_eqGuard_int (op:BinOp) (t:TypeId) (x y:Operand) (k:IntKind) (p:Int) (v:Value) (w:World):(eqGuard op t x y (.int k p) v).run P w = .ok () w:=by
 unfold eqGuard;cases op<;>rfl
theorem run_eqGuard_string (op:BinOp) (t:TypeId) (x y:Operand) (k:ByteArray) (v:Value) (w:World):(eqGuard op t x y (.string k) v).run P w = .ok () w:=by
 unfold eqGuard;cases op<;>rfl
theorem ov_add {t u:TypeId} {x y:Operand} {k:IntKind} {p q:Int} (ho:o.op = .binOp .add t x y u) (hx:env.ev? x=some (.int k p)) (hy:env.ev? y=some (.int k q)) (hr:inK k (p+q)) :
  OpVal P n env o h (.int k (p+q)):=fun w a _ ha=>by
 simp [execOp,ho,ha.ev hx,ha.ev hy,run_eqGuard_int,binOp,Op.intArith];rw [show k.wrap (p+q)=p+q from hr]
theorem ov_sub {t u:TypeId} {x y:Operand} {k:IntKind} {p q:Int} (ho:o.op = .binOp .sub t x y u) (hx:env.ev? x=some (.int k p)) (hy:env.ev? y=some (.int k q)) (hr:inK k (p-q)) :
  OpVal P n env o h (.int k (p-q)):=fun w a _ ha=>by
 simp [execOp,ho,ha.ev hx,ha.ev hy,run_eqGuard_int,binOp,Op.intArith];rw [show k.wrap (p-q)=p-q from hr]
theorem ov_mul {t u:TypeId} {x y:Operand} {k:IntKind} {p q:Int} (ho:o.op = .binOp .mul t x y u) (hx:env.ev? x=some (.int k p)) (hy:env.ev? y=some (.int k q)) (hr:inK k (p*q)) :
  OpVal P n env o h (.int k (p*q)):=fun w a _ ha=>by
 simp [execOp,ho,ha.ev hx,ha.ev hy,run_eqGuard_int,binOp,Op.intArith];rw [show k.wrap (p*q)=p*q from hr]
theorem ov_rem {t u:TypeId} {x y:Operand} {k:IntKind} {p q:Int} (ho:o.op = .binOp .rem t x y u) (hx:env.ev? x=some (.int k p)) (hy:env.ev? y=some (.int k q)) (hp:0≤p) (hq:0<q) :
  OpVal P n env o h (.int k (p % q)):=fun w a _ ha=>by
 simp [execOp,ho,ha.ev hx,ha.ev hy,run_eqGuard_int,binOp,Op.intDiv,if_neg (show ¬ q=0 by omega),Int.tmod_eq_emod_of_nonneg hp]
theorem ov_quo {t u:TypeId} {x y:Operand} {k:IntKind} {p q:Int} (ho:o.op = .binOp .quo t x y u) (hx:env.ev? x=some (.int k p)) (hy:env.ev? y=some (.int k q)) (hp:0≤p) (hq:0<q) (hr:inK k (p / q)) :
  OpVal P n env o h (.int k (p / q)):=fun w a _ ha=>by
 simp [execOp,ho,ha.ev hx,ha.ev hy,run_eqGuard_int,binOp,Op.intDiv,if_neg (show ¬ q=0 by omega),Int.tdiv_eq_ediv_of_nonneg hp];rw [show k.wrap (p / q)=p / q from hr]
theorem ov_lss {t u:TypeId} {x y:Operand} {k:IntKind} {p q:Int} (ho:o.op = .binOp .lss t x y u) (hx:env.ev? x=some (.int k p)) (hy:env.ev? y=some (.int k q)) :
  OpVal P n env o h (.bool (decide (p<q))):=fun w a _ ha=>by
 simp [execOp,ho,ha.ev hx,ha.ev hy,run_eqGuard_int,binOp,Op.intCmp]
theorem ov_leq {t u:TypeId} {x y:Operand} {k:IntKind} {p q:Int} (ho:o.op = .binOp .leq t x y u) (hx:env.ev? x=some (.int k p)) (hy:env.ev? y=some (.int k q)) :
  OpVal P n env o h (.bool (decide (p≤q))):=fun w a _ ha=>by
 simp [execOp,ho,ha.ev hx,ha.ev hy,run_eqGuard_int,binOp,Op.intCmp]
theorem ov_gtr {t u:TypeId} {x y:Operand} {k:IntKind} {p q:Int} (ho:o.op = .binOp .gtr t x y u) (hx:env.ev? x=some (.int k p)) (hy:env.ev? y=some (.int k q)) :
  OpVal P n env o h (.bool (decide (q<p))):=fun w a _ ha=>by
 simp [execOp,ho,ha.ev hx,ha.ev hy,run_eqGuard_int,binOp,Op.intCmp]
theorem ov_geq {t u:TypeId} {x y:Operand} {k:IntKind} {p q:Int} (ho:o.op = .binOp .geq t x y u) (hx:env.ev? x=some (.int k p)) (hy:env.ev? y=some (.int k q)) :
  OpVal P n env o h (.bool (decide (q≤p))):=fun w a _ ha=>by
 simp [execOp,ho,ha.ev hx,ha.ev hy,run_eqGuard_int,binOp,Op.intCmp]
theorem ov_eql {t u:TypeId} {x y:Operand} {k:IntKind} {p q:Int} (ho:o.op = .binOp .eql t x y u) (hx:env.ev? x=some (.int k p)) (hy:env.ev? y=some (.int k q)) :
  OpVal P n env o h (.bool (decide (p=q))):=fun w a _ ha=>by
 simp [execOp,ho,ha.ev hx,ha.ev hy,run_eqGuard_int,binOp,Op.intCmp];rfl
theorem ov_neq {t u:TypeId} {x y:Operand} {k:IntKind} {p q:Int} (ho:o.op = .binOp .neq t x y u) (hx:env.ev? x=some (.int k p)) (hy:env.ev? y=some (.int k q)) :
  OpVal P n env o h (.bool (!decide (p=q))):=fun w a _ ha=>by
 simp [execOp,ho,ha.ev hx,ha.ev hy,run_eqGuard_int,binOp,Op.intCmp,bne];rfl
theorem ov_neg {t:TypeId} {x:Operand} {k:IntKind} {p:Int} (ho:o.op = .unOp .neg t x) (hx:env.ev? x=some (.int k p)) (hr:inK k (-p)):OpVal P n env o h (.int k (-p)):=fun w a _ ha=>by
 simp [execOp,ho,ha.ev hx,Op.unary,Op.intArith];rw [show k.wrap (-p) = -p from hr]
def natOf:Int→Option Nat
 | .ofNat j=>some j
 | .negSucc _=>none
theorem natOf_eq {q:Int} {j:Nat} (h:natOf q=some j):q=(j:Int):=by cases q<;>simp [natOf] at h;subst h;rfl
theorem natOf_of {q:Int} {j:Nat} (h:q=(j:Int)):natOf q=some j:=by subst h;rfl
theorem str_toList (l:List UInt8):(str l).data.toList=l:=by simp [str]
theorem str_inj {l m:List UInt8} (h:str l=str m):l=m:=by simpa [str_toList] using congrArg (fun s=>s.data.toList) h
theorem ba_toList_loop (bs:ByteArray):∀ (m i:Nat) (r:List UInt8),bs.size-i=m→ByteArray.toList.loop bs i r=r.reverse++bs.data.toList.drop i:=by
 intro m
 induction m with
 | zero =>
  intro i r h
  have h':bs.data.toList.length≤i:=by simp only [ByteArray.size] at h;simp only [Array.length_toList];omega
  rw [ByteArray.toList.loop,if_neg (by omega),List.drop_eq_nil_of_le h',List.append_nil]
 | succ m ih =>
  intro i r h
  have hi:i<bs.size:=by omega
  have hi':i<bs.data.toList.length:=by simpa only [ByteArray.size,Array.length_toList] using hi
  have hg:bs.get! i=bs.data.toList[i]:=by
   cases bs with | mk d=>simp only [ByteArray.size] at hi;simp [ByteArray.get!,hi]
  rw [ByteArray.toList.loop,if_pos hi,ih (i+1) _ (by omega),List.drop_eq_getElem_cons hi',hg]
  simp
theorem ba_toList (bs:ByteArray):bs.toList=bs.data.toList:=by
 rw [ByteArray.toList,ba_toList_loop bs bs.size 0 [] (by simp)];simp
theorem str_append (p q:List UInt8):str p++str q=str (p++q):=by
 apply ByteArray.ext
 simp [str,ByteArray.data_append]
theorem ov_sadd {t u:TypeId} {x y:Operand} {p q:List UInt8} (ho:o.op = .binOp .add t x y u) (hx:env.ev? x=some (.string (str p))) (hy:env.ev? y=some (.string (str q))) (hr:p.length+q.length≤9223372036854775807) :
  OpVal P n env o h (.string (str (p++q))):=fun w a _ ha=>by
 simp [execOp,ho,ha.ev hx,ha.ev hy,run_eqGuard_string,binOp,Op.stringOp,str_size,str_append];omega
theorem beq_dec (p q:List UInt8):(p == q)=decide (p=q):=by rw [Bool.eq_iff_iff];simp
theorem ov_seql {t u:TypeId} {x y:Operand} {p q:List UInt8} (ho:o.op = .binOp .eql t x y u) (hx:env.ev? x=some (.string (str p))) (hy:env.ev? y=some (.string (str q))) :
  OpVal P n env o h (.bool (decide (p=q))):=fun w a _ ha=>by
 simp [execOp,ho,ha.ev hx,ha.ev hy,run_eqGuard_string,binOp,Op.stringOp,ba_toList,str_toList,beq_dec]
theorem ov_sneq {t u:TypeId} {x y:Operand} {p q:List UInt8} (ho:o.op = .binOp .neq t x y u) (hx:env.ev? x=some (.string (str p))) (hy:env.ev? y=some (.string (str q))) :
  OpVal P n env o h (.bool (!decide (p=q))):=fun w a _ ha=>by
 simp [execOp,ho,ha.ev hx,ha.ev hy,run_eqGuard_string,binOp,Op.stringOp,ba_toList,str_toList,beq_dec]
end
end Go.Pat
namespace Go.Pat
open Go
section
variable {P:Program} {n:Nat} {env:Env} {h:Heap} {o:Oper} {T:Tab}
theorem und {t:TypeId} {i:TI} (_:i.fits P t) {d:TypeDesc} (hd:P.underlying t=some d) (w:World):(underlying t).run P w = .ok d w:=by
 simp [underlying,program,Sem.run,hd]
theorem tinfo {t:TypeId} {info:TypeInfo} (hi:P.info? t=some info) (w:World):(typeInfo t).run P w = .ok info w:=by
 simp [typeInfo,program,Sem.run,hi]
theorem run_sizeOf {t:TypeId} {i:TI} (hf:i.fits P t) (w:World):(sizeOf t).run P w = .ok i.size w:=by
 obtain ⟨⟨info,h1,h2,_⟩,_⟩:=hf
 simp [sizeOf,tinfo h1,h2]
theorem run_zero {t:TypeId} {i:TI} (hf:i.fits P t) (w:World):(zeroValue t).run P w = .ok i.zero w:=by
 obtain ⟨⟨info,h1,_,_,h4⟩,_⟩:=hf
 simp [zeroValue,tinfo h1,h4]
theorem add_plain (b p m:Nat):(⟨b,p,none⟩:Addr).add m=⟨b,p+m,none⟩:=by
 unfold Addr.add;split<;>simp_all
theorem ov_field {s:TypeId} {x:Operand} {i:Nat} {b p off:Nat} {ft:TypeId} {sz by_:Nat} {z:Value} {fs:List (Nat × TypeId)} {j:TI} (hT:T.ok P) (ho:o.op = .fieldAddr s x i)
  (hx:env.ev? x=some (.pointer (some ⟨b,p,none⟩))) (ht:T.get? s=some ⟨sz,by_,z,.struct fs⟩) (hf:fs[i]? = some (off,ft)) (hj:T.get? ft=some j) (hz:Nat.beq j.size 0=false) :
  OpVal P n env o h (.pointer (some ⟨b,p+off,none⟩)):=fun w a _ ha=>by
 obtain ⟨_,fields,hu,hfs⟩:=Tab.fits hT ht
 have hs:=Tab.fits hT hj
 have hz':¬ j.size=0:=fun e=>by rw [e] at hz;simp at hz
 have hfi:∃ fd,fields[i]? = some fd∧fd.offset=off∧fd.type=ft:=by
  rw [← hfs] at hf
  simp only [List.getElem?_map,Array.getElem?_toList] at hf
  cases hq:fields[i]? with
  | none=>simp [hq] at hf
  | some fd=>simp [hq] at hf;exact ⟨fd,rfl,hf.1,hf.2⟩
 obtain ⟨fd,e1,e2,e3⟩:=hfi
 simp [execOp,ho,ha.ev hx,Instr.fieldAt,und (Tab.fits hT ht) hu,e1,Instr.sureAddr,fieldPlace,e3,run_sizeOf hs,hz',e2,add_plain]
theorem ov_indexAddr {t:TypeId} {x i:Operand} {b p len cap:Nat} {k:IntKind} {q:Int} {j:Nat} {e:TypeId} {sz by_ esz eby:Nat} {z ez:Value} {ek:TK} (hT:T.ok P) (ho:o.op = .indexAddr t x i)
  (hx:env.ev? x=some (.slice (some ⟨b,p,none⟩) len cap)) (hi:env.ev? i=some (.int k q)) (ht:T.get? t=some ⟨sz,by_,z,.slice e⟩) (he:T.get? e=some ⟨esz,eby,ez,ek⟩) (hq:natOf q=some j) (hj:j<len) :
  OpVal P n env o h (.pointer (some ⟨b,p+j*esz,none⟩)):=fun w a _ ha=>by
 replace hq:=natOf_eq hq
 have hu:P.underlying t=some (.slice e):=(Tab.fits hT ht).2
 subst hq
 simp [execOp,ho,ha.ev hx,ha.ev hi,Instr.indexAt,asIntOf,und (Tab.fits hT ht) hu,run_sizeOf (Tab.fits hT he),hj,add_plain]
theorem str_get (l:List UInt8) (j:Nat):(str l)[j]? = l[j]?:=by
 by_cases hj:j<l.length
 ·rw [getElem?_pos (str l) j (by rw [str_size];exact hj),List.getElem?_eq_getElem hj];rfl
 ·rw [getElem?_neg (str l) j (by rw [str_size];exact hj),List.getElem?_eq_none (by omega)]
theorem ov_index {t:TypeId} {x i:Operand} {l:List UInt8} {k:IntKind} {q:Int} {j:Nat} {c:UInt8} {sz by_:Nat} {z:Value} (hT:T.ok P) (ho:o.op = .index t x i)
  (hx:env.ev? x=some (.string (str l))) (hi:env.ev? i=some (.int k q)) (ht:T.get? t=some ⟨sz,by_,z,.string⟩) (hq:natOf q=some j) (hj:l[j]? = some c) :
  OpVal P n env o h (.int .u8 (c.toNat:Int)):=fun w a _ ha=>by
 replace hq:=natOf_eq hq
 have hu:P.underlying t=some .string:=(Tab.fits hT ht).2
 subst hq
 simp [execOp,ho,ha.ev hx,ha.ev hi,Instr.index,asIntOf,und (Tab.fits hT ht) hu,str_get,hj]
theorem ov_slen {t:TypeId} {x:Operand} {l:List UInt8} {sz by_:Nat} {z:Value} (hT:T.ok P) (ho:o.op = .call { callee:=.builtin .len,args:=#[x],argTypes:=#[t] })
  (hx:env.ev? x=some (.string (str l))) (ht:T.get? t=some ⟨sz,by_,z,.string⟩):OpVal P n env o h (.int .i64 (l.length:Int)):=fun w a _ ha=>by
 have hu:P.underlying t=some .string:=(Tab.fits hT ht).2
 simp [execOp,ho,ha.ev hx,resolve,invoke,builtin,Builtin.len_,und (Tab.fits hT ht) hu,str_size,goInt]
theorem ov_len {t:TypeId} {x:Operand} {ad:Option Addr} {len cap:Nat} {e:TypeId} {sz by_:Nat} {z:Value} (hT:T.ok P) (ho:o.op = .call { callee:=.builtin .len,args:=#[x],argTypes:=#[t] })
  (hx:env.ev? x=some (.slice ad len cap)) (ht:T.get? t=some ⟨sz,by_,z,.slice e⟩):OpVal P n env o h (.int .i64 (len:Int)):=fun w a _ ha=>by
 have hu:P.underlying t=some (.slice e):=(Tab.fits hT ht).2
 simp [execOp,ho,ha.ev hx,resolve,invoke,builtin,Builtin.len_,und (Tab.fits hT ht) hu,goInt]
theorem ov_cap {t:TypeId} {x:Operand} {ad:Option Addr} {len cap:Nat} {e:TypeId} {sz by_:Nat} {z:Value} (hT:T.ok P) (ho:o.op = .call { callee:=.builtin .cap,args:=#[x],argTypes:=#[t] })
  (hx:env.ev? x=some (.slice ad len cap)) (ht:T.get? t=some ⟨sz,by_,z,.slice e⟩):OpVal P n env o h (.int .i64 (cap:Int)):=fun w a _ ha=>by
 have hu:P.underlying t=some (.slice e):=(Tab.fits hT ht).2
 simp [execOp,ho,ha.ev hx,resolve,invoke,builtin,Builtin.cap_,und (Tab.fits hT ht) hu,goInt]
def TK.agg:TK→Bool
 | .inr (.inr (.inr (.inr _)))=>true
 | _=>false
theorem run_isAgg {t:TypeId} {i:TI} (hf:i.fits P t) (w:World):(isAgg t).run P w = .ok i.kind.agg w:=by
 have h2:=hf.2
 rcases hk:i.kind with k | (_ | _) | e | e | fs | ⟨m,e⟩<;>rw [hk] at h2<;>simp only [TK.fits] at h2
 case inr.inr.inr.inr.inl =>
  obtain ⟨fields,hu,_⟩:=h2
  simp [isAgg,und hf hu,TK.agg]
 all_goals simp [isAgg,und hf h2,TK.agg]
theorem run_load1 {w:World} {b p:Nat} {v:Value} (hv:cellAt w.heap b p=some v):(load ⟨b,p,none⟩).run P w = .ok v w:=by
 have:w.cell? ⟨b,p,none⟩=some v:=by rw [cell?_eq rfl];exact hv
 simp [load,Sem.run,this]
theorem run_loadCellsFrom {w:World} {b p:Nat}:∀ (l:List Value) (i:Nat) (acc:Array Value),Cells w.heap b (p+i) l →
  (loadCellsFrom ⟨b,p,none⟩ i l.length acc).run P w = .ok (acc++l.toArray) w:=by
 intro l
 induction l with
 | nil=>intro i acc _;simp [loadCellsFrom]
 | cons v l ih =>
  intro i acc hc
  have h1:=run_load1 (P:=P) hc.head
  have h2:=ih (i+1) (acc.push v) (by have:=hc.tail;rw [Nat.add_assoc] at this;exact this)
  simp [loadCellsFrom,add_plain,h1,h2]
theorem ov_load {t:TypeId} {x:Operand} {b p:Nat} {v:Value} {i:TI} (hT:T.ok P) (ho:o.op = .load t x) (hx:env.ev? x=some (.pointer (some ⟨b,p,none⟩)))
  (ht:T.get? t=some i) (hag:i.kind.agg=false) (hv:cellAt h b p=some v):OpVal P n env o h v:=fun w a hw ha=>by
 subst hw
 have hc:w.cell? ⟨b,p,none⟩=some v:=by rw [cell?_eq rfl];exact hv
 simp [execOp,ho,ha.ev hx,Instr.loadAt,Instr.sureAddr,loadVar,run_isAgg (Tab.fits hT ht),hag,hc]
theorem ov_loads {t:TypeId} {x:Operand} {b p:Nat} {l:List Value} {i:TI} (hT:T.ok P) (ho:o.op = .load t x) (hx:env.ev? x=some (.pointer (some ⟨b,p,none⟩)))
  (ht:T.get? t=some i) (hag:i.kind.agg=true) (hl:l.length=i.size) (hv:Cells h b p l):OpVal P n env o h (.agg l.toArray):=fun w a hw ha=>by
 subst hw
 have:=run_loadCellsFrom (P:=P) l 0 #[] (by simpa using hv)
 simp [execOp,ho,ha.ev hx,Instr.loadAt,Instr.sureAddr,loadVar,run_isAgg (Tab.fits hT ht),hag,run_sizeOf (Tab.fits hT ht),loadCells,← hl,this]
theorem str_extract (l:List UInt8) (i j:Nat):(str l).extract i j=str ((l.take j).drop i):=by
 apply ByteArray.ext
 simp [str,ByteArray.data_extract,List.extract_eq_take_drop,List.drop_take]
theorem run_bound {i:Nat} {q:Int} {k:IntKind} {y:Nat} {code:BoundsCode} (hq:q=(i:Int)) (hy:i≤y) (w:World):(Instr.sliceBound (.int k q) y code).run P w = .ok i w:=by
 subst hq;simp [Instr.sliceBound,asIntOf,hy]
theorem ov_sslice {t:TypeId} {x lo hi:Operand} {l:List UInt8} {k k':IntKind} {p q:Int} {i j:Nat} {sz by_:Nat} {z:Value} (hT:T.ok P) (ho:o.op = .slice t x (some lo) (some hi) none)
  (hx:env.ev? x=some (.string (str l))) (hlo:env.ev? lo=some (.int k p)) (hhi:env.ev? hi=some (.int k' q)) (ht:T.get? t=some ⟨sz,by_,z,.string⟩) (hp:natOf p=some i) (hq:natOf q=some j) (hij:i≤j) (hj:j≤l.length) :
  OpVal P n env o h (.string (str ((l.take j).drop i))):=fun w a _ ha=>by
 replace hp:=natOf_eq hp
 replace hq:=natOf_eq hq
 have hu:P.underlying t=some .string:=(Tab.fits hT ht).2
 simp [execOp,ho,ha.ev hx,ha.ev hlo,ha.ev hhi,Instr.sliceAt,Instr.slice,Instr.sliceBounds,und (Tab.fits hT ht) hu,run_bound hq (show j≤(str l).size by rw [str_size];exact hj),run_bound hp hij,str_extract]
theorem ov_sslice_lo {t:TypeId} {x lo:Operand} {l:List UInt8} {k:IntKind} {p:Int} {i:Nat} {sz by_:Nat} {z:Value} (hT:T.ok P) (ho:o.op = .slice t x (some lo) none none)
  (hx:env.ev? x=some (.string (str l))) (hlo:env.ev? lo=some (.int k p)) (ht:T.get? t=some ⟨sz,by_,z,.string⟩) (hp:natOf p=some i) (hi:i≤l.length) :
  OpVal P n env o h (.string (str (l.drop i))):=fun w a _ ha=>by
 replace hp:=natOf_eq hp
 have hu:P.underlying t=some .string:=(Tab.fits hT ht).2
 have e:(str l).extract i (str l).size=str (l.drop i):=by rw [str_extract,str_size,List.take_length]
 simp [execOp,ho,ha.ev hx,ha.ev hlo,Instr.sliceAt,Instr.slice,Instr.sliceBounds,und (Tab.fits hT ht) hu,run_bound hp (show i≤(str l).size by rw [str_size];exact hi),e]
theorem ov_sslice_hi {t:TypeId} {x hi:Operand} {l:List UInt8} {k:IntKind} {q:Int} {j:Nat} {sz by_:Nat} {z:Value} (hT:T.ok P) (ho:o.op = .slice t x none (some hi) none)
  (hx:env.ev? x=some (.string (str l))) (hhi:env.ev? hi=some (.int k q)) (ht:T.get? t=some ⟨sz,by_,z,.string⟩) (hq:natOf q=some j) (hj:j≤l.length) :
  OpVal P n env o h (.string (str (l.take j))):=fun w a _ ha=>by
 replace hq:=natOf_eq hq
 have hu:P.underlying t=some .string:=(Tab.fits hT ht).2
 simp [execOp,ho,ha.ev hx,ha.ev hhi,Instr.sliceAt,Instr.slice,Instr.sliceBounds,und (Tab.fits hT ht) hu,run_bound hq (show j≤(str l).size by rw [str_size];exact hj),str_extract]
theorem Same.heap (w:World) (h':Heap):Same w { w with heap:=h' }:=⟨rfl,rfl,rfl⟩
theorem ox_alloc {t:TypeId} {i:TI} {K:Value→Heap→Prop} (hT:T.ok P) (ho:o.op = .alloc t) (ht:T.get? t=some i)
  (hk:K (.pointer (some ⟨h.size,0,none⟩)) (h.push (.cells i.zero.cells t (0,0)))):OpEx P n env o h K:=fun w a hw ha=>by
 subst hw
 refine ⟨_,w.alloc _,?_,⟨rfl,rfl,rfl⟩,hk⟩
 simp [execOp,ho,Instr.alloc,run_zero (Tab.fits hT ht),newVar,newRow]
theorem ox_box {t:TypeId} {x:Operand} {v:Value} {K:Value→Heap→Prop} (ho:o.op = .box t x) (hx:env.ev? x=some v)
  (hk:K (.pointer (some ⟨h.size,0,none⟩)) (h.push (.cells v.cells t (0,0)))):OpEx P n env o h K:=fun w a hw ha=>by
 subst hw
 refine ⟨_,w.alloc _,?_,⟨rfl,rfl,rfl⟩,hk⟩
 simp [execOp,ho,ha.ev hx,Instr.box,newVar,newRow]
end
end Go.Pat
namespace Go.Pat
open Go
section
variable {P:Program} {n:Nat} {env:Env} {h:Heap} {o:Oper} {T:Tab}
def setAll:List Value→Nat→List Value→List Value
 | l,_,[]=>l
 | l,i,v::r=>setAll (l.set i v) (i+1) r
def fillL:List Value→List (Nat × Value)→List Value
 | l,[]=>l
 | l,(off,v)::r=>fillL (setAll l off v.cells.toList) r
theorem foldl_setAll (off:Nat):∀ (vs:List Value) (j:Nat) (cs:Array Value),
  ((vs.zipIdx j).foldl (fun cs (p:Value × Nat)=>cs.setIfInBounds (off+p.2) p.1) cs).toList=setAll cs.toList (off+j) vs:=by
 intro vs
 induction vs with
 | nil=>intro j cs;simp [setAll]
 | cons v r ih =>
  intro j cs
  simp only [List.zipIdx_cons,List.foldl_cons,setAll]
  rw [ih (j+1)]
  simp [Nat.add_assoc]
theorem length_setAll:∀ (vs:List Value) (l:List Value) (i:Nat),(setAll l i vs).length=l.length:=by
 intro vs
 induction vs with
 | nil=>intro l i;rfl
 | cons v r ih=>intro l i;simp [setAll,ih]
def placed (place:Nat→Option (Nat × Nat)) (len:Nat):List (Nat × Value)→Option (List (Nat × Value))
 | []=>some []
 | (i,v)::r =>
  match place i with
  | none=>none
  | some (off,sz) =>
   cond (Nat.beq v.cells.size sz&&Nat.ble (off+sz) len)
    (match placed place len r with
    | none=>none
    | some q=>some ((off,v)::q)) none
theorem fill_placed {place:Nat→Option (Nat × Nat)}:∀ (parts:List (Nat × Value)) (cells:Array Value) (q:List (Nat × Value)),placed place cells.size parts=some q →
  Instr.fill place cells parts=some (fillL cells.toList q).toArray:=by
 intro parts
 induction parts with
 | nil=>intro cells q hq;simp [placed] at hq;subst hq;simp [Instr.fill,fillL]
 | cons p r ih =>
  obtain ⟨i,v⟩:=p
  intro cells q hq
  simp only [placed] at hq
  cases hp:place i with
  | none=>simp [hp] at hq
  | some y =>
   obtain ⟨off,sz⟩:=y
   simp only [hp] at hq
   cases hc:(Nat.beq v.cells.size sz&&Nat.ble (off+sz) cells.size) with
   | false=>simp [hc] at hq
   | true =>
    simp only [hc,cond_true] at hq
    simp only [Bool.and_eq_true] at hc
    have h1:=Nat.eq_of_beq_eq_true hc.1
    have h2:=Nat.le_of_ble_eq_true hc.2
    have hcond:¬ ((v.cells.size≠sz||off+v.cells.size>cells.size)=true):=by simp [h1];omega
    have hfold:=foldl_setAll off v.cells.toList 0 cells
    have harr:v.cells.zipIdx.foldl (fun cs (p:Value × Nat)=>cs.setIfInBounds (off+p.2) p.1) cells=(setAll cells.toList off v.cells.toList).toArray:=by
     apply Array.toList_inj.1
     rw [← Array.foldl_toList]
     simpa using hfold
    cases hr:placed place cells.size r with
    | none=>simp [hr] at hq
    | some q' =>
     simp only [hr] at hq
     cases hq
     unfold Instr.fill
     simp only [hp]
     rw [if_neg hcond]
     have:=ih (setAll cells.toList off v.cells.toList).toArray q' (by simpa [length_setAll] using hr)
     rw [show (v.cells.zipIdx.foldl (fun cs x=>match x with | (c,j)=>cs.setIfInBounds (off+j) c) cells)=(setAll cells.toList off v.cells.toList).toArray from harr,this]
     simp [fillL]
def evps (env:Env):List (Nat × Operand)→Option (List (Nat × Value))
 | []=>some []
 | (i,x)::r=>match env.ev? x with
  | none=>none
  | some v=>match evps env r with
   | none=>none
   | some vs=>some ((i,v)::vs)
theorem evps_spec {a:Act} (ha:Sat n env a):∀ {xs:List (Nat × Operand)} {vs:List (Nat × Value)},evps env xs=some vs→xs.map (fun p=>(p.1,a.eval p.2))=vs:=by
 intro xs
 induction xs with
 | nil=>intro vs hv;simp [evps] at hv;simp [hv]
 | cons x r ih =>
  obtain ⟨i,x⟩:=x
  intro vs hv
  simp only [evps] at hv
  cases hx:env.ev? x with
  | none=>simp [hx] at hv
  | some v =>
   simp only [hx] at hv
   cases hr:evps env r with
   | none=>simp [hr] at hv
   | some us =>
    simp only [hr] at hv
    cases hv
    simp [ha.ev hx,ih hr]
def places (T:Tab):List (Nat × TypeId)→Option (List (Nat × Nat))
 | []=>some []
 | (off,t)::r=>match T.get? t with
  | none=>none
  | some i=>match places T r with
   | none=>none
   | some q=>some ((off,i.size)::q)
theorem run_places (hT:T.ok P) (w:World):∀ (fields:List Field) (q:List (Nat × Nat)),places T (fields.map fun f=>(f.offset,f.type))=some q →
  (fields.mapM fun f=>(Functor.map (Prod.mk f.offset) (sizeOf f.type):Sem (Nat × Nat))).run P w = .ok q w:=by
 intro fields
 induction fields with
 | nil=>intro q hq;simp [places] at hq;subst hq;simp
 | cons f r ih =>
  intro q hq
  simp only [List.map_cons,places] at hq
  cases ht:T.get? f.type with
  | none=>simp [ht] at hq
  | some i =>
   simp only [ht] at hq
   cases hr:places T (r.map fun f=>(f.offset,f.type)) with
   | none=>simp [hr] at hq
   | some q' =>
    simp only [hr] at hq
    cases hq
    have h1:=ih q' hr
    simp [run_sizeOf (Tab.fits hT ht),h1]
theorem ov_build {t:TypeId} {ps:List (Nat × Operand)} {vs q:List (Nat × Value)} {fs:List (Nat × TypeId)} {sz by_:Nat} {z:Value} {pl:List (Nat × Nat)} (hT:T.ok P) (ho:o.op = .build t ps.toArray)
  (ht:T.get? t=some ⟨sz,by_,z,.struct fs⟩) (hv:evps env ps=some vs) (hpl:places T fs=some pl) (hq:placed (fun i=>pl[i]?) z.cells.size vs=some q) :
  OpVal P n env o h (.agg (fillL z.cells.toList q).toArray):=fun w a _ ha=>by
 have hf:=Tab.fits hT ht
 obtain ⟨_,fields,hu,hfs⟩:=hf
 have h1:=run_places (P:=P) hT w fields.toList pl (by rw [hfs];exact hpl)
 have h2:=evps_spec ha hv
 have h3:(fields.mapM fun f=>(Functor.map (Prod.mk f.offset) (sizeOf f.type):Sem (Nat × Nat))).run P w = .ok pl.toArray w:=by
  rw [Array.mapM_eq_mapM_toList]
  simp [h1]
 have h4:=fill_placed (place:=fun i=>pl[i]?) vs z.cells q hq
 have h5:ps.map (fun x=>match x with | (i,x)=>(i,a.eval x))=vs:=h2
 simp [execOp,ho,Instr.build,run_zero (Tab.fits hT ht),und (Tab.fits hT ht) hu,h3,h5,h4]
theorem ox_buildSlice {t e:TypeId} {len:Nat} {ps:List (Nat × Operand)} {vs q:List (Nat × Value)} {sz by_:Nat} {z:Value} {i:TI} {zs:List Value} {K:Value→Heap→Prop} (hT:T.ok P) (ho:o.op = .buildSlice t len ps.toArray)
  (ht:T.get? t=some ⟨sz,by_,z,.slice e⟩) (he:T.get? e=some i) (hz:i.zero.cells.toList=zs) (hpos:Nat.blt 0 (len*i.size)=true) (hle:Nat.ble (len*i.size) 16777216=true)
  (hv:evps env ps=some vs) (hq:placed (fun j=>some (j*i.size,i.size)) (len*i.size) vs=some q)
  (hk:∀ cs:List Value,cs=fillL ((List.range (len*i.size)).map fun j=>zs[j % zs.length]!) q→K (.slice (some ⟨h.size,0,none⟩) len len) (h.push (.cells cs.toArray e (0,0)))):OpEx P n env o h K:=fun w a hw ha=>by
 subst hw
 have hu:P.underlying t=some (.slice e):=(Tab.fits hT ht).2
 have h2:=evps_spec ha hv
 have h5:ps.map (fun x=>match x with | (i,x)=>(i,a.eval x))=vs:=h2
 have hpos':¬ (len*i.size=0):=by rw [Nat.blt_eq] at hpos;omega
 have hle':¬ (2 ^ 24<len*i.size):=by have:=Nat.le_of_ble_eq_true hle;omega
 have h4:=fill_placed (place:=fun j=>some (j*i.size,i.size)) vs ((Array.range (len*i.size)).map fun j=>i.zero.cells[j % i.zero.cells.size]!) q (by simpa using hq)
 have hz1:((Array.range (len*i.size)).map fun j=>i.zero.cells[j % i.zero.cells.size]!).toList=(List.range (len*i.size)).map fun j=>zs[j % zs.length]!:=by
  subst hz
  simp [getElem!_def]
 rw [hz1] at h4
 refine ⟨_,w.alloc _,?_,⟨rfl,rfl,rfl⟩,hk _ rfl⟩
 simp [execOp,ho,Instr.buildSlice,und (Tab.fits hT ht) hu,run_sizeOf (Tab.fits hT he),hle',hpos',run_zero (Tab.fits hT he),h5,h4,newRow]
end
end Go.Pat
namespace Go.Pat
open Go
structure Fr (S:Nat→Prop) (h h':Heap):Prop where
 size:h.size≤h'.size
 same:∀ b,b<h.size→¬ S b→h'[b]? = h[b]?
abbrev Ext (h h':Heap):Prop:=Fr (fun _=>False) h h'
theorem Fr.refl (S:Nat→Prop) (h:Heap):Fr S h h:=⟨Nat.le_refl _,fun _ _ _=>rfl⟩
theorem Fr.trans {S:Nat→Prop} {a b c:Heap} (x:Fr S a b) (y:Fr S b c):Fr S a c :=
 ⟨Nat.le_trans x.size y.size,fun k hk hs=>(y.same k (Nat.lt_of_lt_of_le hk x.size) hs).trans (x.same k hk hs)⟩
theorem Fr.mono {S S':Nat→Prop} {a b:Heap} (x:Fr S a b) (hs:∀ k,k<a.size→S k→S' k):Fr S' a b:=⟨x.size,fun k hk h=>x.same k hk fun e=>h (hs k hk e)⟩
theorem Fr.trans_new {S:Nat→Prop} {a b c:Heap} (x:Fr S a b) (y:Fr (fun k=>S k∨a.size≤k) b c):Fr S a c :=
 ⟨Nat.le_trans x.size y.size,fun k hk hs=>(y.same k (Nat.lt_of_lt_of_le hk x.size) (fun e=>e.elim hs (fun e=>by omega))).trans (x.same k hk hs)⟩
theorem Fr.cell {S:Nat→Prop} {h h':Heap} (x:Fr S h h') {b o:Nat} {v:Value} (hs:¬ S b) (hc:cellAt h b o=some v):cellAt h' b o=some v:=by
 have hb:b<h.size:=by
  rcases Nat.lt_or_ge b h.size with e | e
  ·exact e
  ·simp [cellAt,Array.getElem?_eq_none e] at hc
 unfold cellAt at *
 rw [x.same b hb hs];exact hc
theorem Fr.cells {S:Nat→Prop} {h h':Heap} (x:Fr S h h') {b o:Nat} {l:List Value} (hs:¬ S b) (hc:Cells h b o l):Cells h' b o l:=fun j v hj=>x.cell hs (hc j v hj)
theorem Fr.push (S:Nat→Prop) (h:Heap) (ob:Obj):Fr S h (h.push ob):=⟨by simp,fun b hb _=>by rw [Array.getElem?_push,if_neg (by omega)]⟩
theorem lt_of_cell {h:Heap} {b o:Nat} {v:Value} (hc:cellAt h b o=some v):b<h.size:=by
 rcases Nat.lt_or_ge b h.size with e | e
 ·exact e
 ·simp [cellAt,Array.getElem?_eq_none e] at hc
theorem Ext.cell {h h':Heap} (x:Ext h h') {b o:Nat} {v:Value} (hc:cellAt h b o=some v):cellAt h' b o=some v:=Fr.cell x (by simp) hc
theorem Ext.cells {h h':Heap} (x:Ext h h') {b o:Nat} {l:List Value} (hc:Cells h b o l):Cells h' b o l:=Fr.cells x (by simp) hc
theorem Fr.xc {h h':Heap} (x:Ext h h') {b o:Nat} {v:Value} (hc:cellAt h b o=some v):cellAt h' b o=some v:=Fr.cell x (by simp) hc
theorem Fr.xcs {h h':Heap} (x:Ext h h') {b o:Nat} {l:List Value} (hc:Cells h b o l):Cells h' b o l:=Fr.cells x (by simp) hc
theorem cell_push_new {h:Heap} {c:List Value} {e:TypeId} {fr:Nat × Nat} {j:Nat} {v:Value} (hv:c[j]? = some v):cellAt (h.push (.cells c.toArray e fr)) h.size j=some v:=by
 simp [cellAt,hv]
theorem cells_push_new {h:Heap} (c:List Value) (e:TypeId) (fr:Nat × Nat):Cells (h.push (.cells c.toArray e fr)) h.size 0 c:=fun j v hv=>by
 rw [Nat.zero_add];exact cell_push_new hv
def Own (h:Heap) (e:TypeId) (sz:Nat) (v:Value) (n:Nat) (xs:List Value):Prop :=
 xs.length=n*sz ∧
 ((v = .slice none 0 0∧n=0) ∨
  ∃ g cap cur,v = .slice (some ⟨g,0,none⟩) n cap∧h[g]? = some (.cells cur e (0,0))∧n≤cap∧cap≤maxLen∧cur.size=cap*sz∧cur.toList.take (n*sz)=xs)
def Rd (h:Heap) (sz:Nat) (v:Value) (n:Nat) (xs:List Value):Prop :=
 xs.length=n*sz∧((v = .slice none 0 0∧n=0)∨∃ b p cap,v = .slice (some ⟨b,p,none⟩) n cap∧n≤cap∧Cells h b p xs)
theorem Own.nil (h:Heap) (e:TypeId) (sz:Nat):Own h e sz (.slice none 0 0) 0 []:=⟨by simp,.inl ⟨rfl,rfl⟩⟩
theorem Own.rd {h:Heap} {e:TypeId} {sz:Nat} {v:Value} {n:Nat} {xs:List Value} (x:Own h e sz v n xs):Rd h sz v n xs:=by
 refine ⟨x.1,?_⟩
 rcases x.2 with hn | ⟨g,cap,cur,rfl,hg,hc,_,hs,ht⟩
 ·exact .inl hn
 ·refine .inr ⟨g,0,cap,rfl,hc,fun j u hj=>?_⟩
  rw [← ht,List.getElem?_take] at hj
  split at hj
  ·simp only [cellAt,hg,Nat.zero_add];simpa using hj
  ·cases hj
theorem Own.fr {S:Nat→Prop} {h h':Heap} {e:TypeId} {sz:Nat} {v:Value} {n:Nat} {xs:List Value} (x:Own h e sz v n xs) (f:Fr S h h') (hs:∀ k,v.ownBlock=some k→¬ S k):Own h' e sz v n xs:=by
 refine ⟨x.1,?_⟩
 rcases x.2 with hn | ⟨g,cap,cur,rfl,hg,r⟩
 ·exact .inl hn
 ·exact .inr ⟨g,cap,cur,rfl,by rw [f.same g (Array.getElem?_eq_some_iff.1 hg).1 (hs g rfl)];exact hg,r⟩
theorem Own.lt {h:Heap} {e:TypeId} {sz:Nat} {v:Value} {n:Nat} {xs:List Value} (x:Own h e sz v n xs):∀ k,v.ownBlock=some k→k<h.size:=by
 intro k hk
 rcases x.2 with ⟨rfl,_⟩ | ⟨g,cap,cur,rfl,hg,_⟩
 ·simp [Value.ownBlock] at hk
 ·simp [Value.ownBlock] at hk;subst hk;exact (Array.getElem?_eq_some_iff.1 hg).1
theorem Rd.fr {S:Nat→Prop} {h h':Heap} {sz:Nat} {v:Value} {n:Nat} {xs:List Value} (x:Rd h sz v n xs) (f:Fr S h h') (hs:∀ k,v.ownBlock=some k→¬ S k):Rd h' sz v n xs:=by
 refine ⟨x.1,?_⟩
 rcases x.2 with hn | ⟨b,p,cap,rfl,hc,hl⟩
 ·exact .inl hn
 ·exact .inr ⟨b,p,cap,rfl,hc,f.cells (hs b rfl) hl⟩
theorem Rd.cells_of {h:Heap} {sz:Nat} {b p c n:Nat} {xs:List Value} (x:Rd h sz (.slice (some ⟨b,p,none⟩) n c) n xs):Cells h b p xs:=by
 rcases x.2 with ⟨e,_⟩ | ⟨b',p',c',e,_,hh⟩
 ·cases e
 ·cases e;exact hh
theorem Rd.ext {h h':Heap} {sz:Nat} {v:Value} {n:Nat} {xs:List Value} (x:Rd h sz v n xs) (f:Ext h h'):Rd h' sz v n xs:=x.fr f (by simp)
section
variable {P:Program} {n:Nat} {env:Env} {h:Heap} {o:Oper} {T:Tab}
theorem news_of {w:World} {b p:Nat} {l:List Value} (hc:Cells w.heap b p l):∀ j u,l[j]? = some u→w.cell? ((⟨b,p,none⟩:Addr).add j)=some u:=fun j u hj=>by
 rw [add_plain,cell?_eq rfl];exact hc j u hj
def One (l:List Value):Prop:=∀ u∈l,u.oneCell'=true
theorem ox_append {s x:Operand} {t e:TypeId} {v xv:Value} {N m:Nat} {xs news:List Value} {i:TI} {sz by_:Nat} {z:Value} {K:Value→Heap→Prop} (hT:T.ok P)
  (ho:o.op = .call { callee:=.builtin .append,args:=#[s,x],argTypes:=#[t,t] }) (hs:env.ev? s=some v) (hx:env.ev? x=some xv)
  (ht:T.get? t=some ⟨sz,by_,z,.slice e⟩) (he:T.get? e=some i) (hz:i.zero.cells.size=i.size) (hsz:Nat.blt 0 i.size=true)
  (hown:Own h e i.size v N xs) (hr:Rd h i.size xv m news) (h1:One news) (hb:(N+m)*(i.bytes+1)≤140737488355328)
  (hk:∀ v' h',Own h' e i.size v' (N+m) (xs++news)→Fr (fun k=>v.ownBlock=some k) h h'→(v'.ownBlock=v.ownBlock∨v'.ownBlock=some h.size)→K v' h'):OpEx P n env o h K:=fun w a hw ha=>by
 subst hw
 obtain ⟨⟨info,hi,hi2,hi3,hi4⟩,_⟩:=Tab.fits hT he
 have hu:P.underlying t=some (.slice e):=(Tab.fits hT ht).2
 have hsz':0<i.size:=by rw [Nat.blt_eq] at hsz;exact hsz
 have hbytes:(N+m)*i.bytes≤140737488355328:=Nat.le_trans (Nat.mul_le_mul_left _ (Nat.le_succ _)) hb
 have hsmall:N+m≤140737488355328:=Nat.le_trans (Nat.le_mul_of_pos_right _ (Nat.succ_pos _)) hb
 have hrun:∃ v' w',(Builtin.append_ #[t,t] o.type #[v,xv]).run P w = .ok v' w'∧Same w w'∧Own w'.heap e i.size v' (N+m) (xs++news)∧Fr (fun k=>v.ownBlock=some k) w.heap w'.heap∧(v'.ownBlock=v.ownBlock∨v'.ownBlock=some w.heap.size):=by
  rcases hr.2 with ⟨rfl,rfl⟩ | ⟨b,p,c,rfl,hmc,hcells⟩
  ·have hn:news=[]:=List.eq_nil_of_length_eq_zero (by simpa using hr.1)
   subst hn
   rcases hown.2 with ⟨rfl,rfl⟩ | ⟨g,cap,cur,rfl,hg,hnc,hcm,hcs,htake⟩
   ·refine ⟨.slice none 0 0,w,?_,Same.refl w,by simpa using hown,Fr.refl _ _,.inl rfl⟩
    simp [Builtin.append_,und (Tab.fits hT ht) hu,sizeOf,typeInfo,hi,Builtin.lenOf,Builtin.firstCells]
   ·refine ⟨_,w.setRow g cur,?_,⟨rfl,rfl,rfl⟩,?_,⟨by simp,fun k _ hk=>setRow_other w g k _ (fun e=>hk (by simp [Value.ownBlock,e]))⟩,.inl rfl⟩
    ·simp [Builtin.append_,und (Tab.fits hT ht) hu,sizeOf,typeInfo,hi,Builtin.lenOf,Builtin.firstCells,hnc,storeCells,setRow_self w g cur e (0,0) hg]
    ·refine ⟨by simpa using hown.1,.inr ⟨g,cap,cur,rfl,setRow_heap w g cur _ e _ hg,hnc,hcm,hcs,by simpa using htake⟩⟩
  ·have hl:news.length=m*i.size:=hr.1
   obtain ⟨v',w',q1,q2,q3,q4⟩:=run_append_own (P:=P) w 0 t o.type e info i.zero i.size i.bytes hu hi hi4 hi2 hi3 hz hsz' v N xs
    ⟨hown.1,hown.2.imp id (fun ⟨g,cap,cur,a1,a2,a3⟩=>⟨g,cap,cur,a1,Nat.zero_le _,a2,a3⟩)⟩ ⟨b,p,none⟩ m c news hl (news_of hcells) h1 (by unfold maxLen;omega) hbytes (Nat.zero_le _)
   have hown':Own w'.heap e i.size v' (N+m) (xs++news):=⟨q2.1,q2.2.imp id (fun ⟨g,cap,cur,a1,_,a2,a3⟩=>⟨g,cap,cur,a1,a2,a3⟩)⟩
   refine ⟨v',w',q1,⟨q3.os,q3.tape,q3.output⟩,hown',⟨q3.size,fun k hk hs=>q3.block k hk (fun e=>hs e.symm)⟩,?_⟩
   rcases hown.2 with ⟨rfl,rfl⟩ | ⟨g,cap,cur,rfl,hg,hnc,hcm,hcs,htake⟩
   ·by_cases hm:m=0
    ·have:=q4.2 ⟨rfl,hm⟩;subst this;exact .inl rfl
    ·have hr:=run_append_nil (P:=P) w t o.type e info i.zero hu hi hi4 ⟨b,p,none⟩ m c news (by rw [hi2];exact hl) (news_of hcells) (by omega) (by omega) (by rw [hi3];simp only [Nat.zero_add] at hbytes;omega)
     rw [hr] at q1
     cases q1
     exact .inr rfl
   ·by_cases hroom:N+m≤cap
    ·have hr:=run_append_room (P:=P) w t o.type e info hu hi g N cap cur hg ⟨b,p,none⟩ m c news (by rw [hi2];exact hl) (news_of hcells) h1 hroom (by rw [hi2,hl,hcs,← Nat.add_mul];exact Nat.mul_le_mul_right _ hroom)
     rw [hr] at q1
     cases q1
     exact .inl rfl
    ·have hr:=run_append_grow (P:=P) w t o.type e info i.zero hu hi hi4 ⟨g,0,none⟩ N cap xs (by rw [hi2];exact hown.1) (news_of hown.rd.cells_of) ⟨b,p,none⟩ m c news (by rw [hi2];exact hl) (news_of hcells) (by omega) (by omega) (by rw [hi3];exact growslice_fits (by omega) hbytes)
     rw [hr] at q1
     cases q1
     exact .inr rfl
 obtain ⟨v',w',q1,q2,q3,q4,q5⟩:=hrun
 refine ⟨v',w',?_,q2,hk v' w'.heap q3 q4 q5⟩
 simp [execOp,ho,resolve,invoke,builtin,ha.ev hs,ha.ev hx,q1]
theorem ox_append_full {s x:Operand} {t e:TypeId} {xv:Value} {b p N m:Nat} {xs news:List Value} {i:TI} {sz by_:Nat} {z:Value} {K:Value→Heap→Prop} (hT:T.ok P)
  (ho:o.op = .call { callee:=.builtin .append,args:=#[s,x],argTypes:=#[t,t] }) (hs:env.ev? s=some (.slice (some ⟨b,p,none⟩) N N)) (hx:env.ev? x=some xv)
  (ht:T.get? t=some ⟨sz,by_,z,.slice e⟩) (he:T.get? e=some i) (hz:i.zero.cells.size=i.size)
  (hlen:xs.length=N*i.size) (hcs:Cells h b p xs) (hr:Rd h i.size xv m news) (hm:0<m) (hb:(N+m)*(i.bytes+1)≤140737488355328)
  (hk:∀ v' h',Own h' e i.size v' (N+m) (xs++news)→Ext h h'→v'.ownBlock=some h.size→K v' h'):OpEx P n env o h K:=fun w a hw ha=>by
 subst hw
 obtain ⟨⟨info,hi,hi2,hi3,hi4⟩,_⟩:=Tab.fits hT he
 have hu:P.underlying t=some (.slice e):=(Tab.fits hT ht).2
 have hbytes:(N+m)*i.bytes≤140737488355328:=Nat.le_trans (Nat.mul_le_mul_left _ (Nat.le_succ _)) hb
 have hsmall:N+m≤140737488355328:=Nat.le_trans (Nat.le_mul_of_pos_right _ (Nat.succ_pos _)) hb
 rcases hr.2 with ⟨rfl,rfl⟩ | ⟨b',p',c,rfl,hmc,hcells⟩
 ·omega
 ·have hrun:=run_append_grow (P:=P) w t o.type e info i.zero hu hi hi4 ⟨b,p,none⟩ N N xs (by rw [hi2];exact hlen) (news_of hcs) ⟨b',p',none⟩ m c news (by rw [hi2];exact hr.1) (news_of hcells) (by omega) (by omega) (by rw [hi3];exact growslice_fits (by omega) hbytes)
  refine ⟨.slice (some ⟨w.heap.size,0,none⟩) (N+m) (grownCap w (N+m) N e),w.drew.alloc (.cells (xs.toArray++news.toArray++Builtin.zeroCells i.zero.cells (grownCap w (N+m) N e-(N+m))) e),?_,⟨rfl,rfl,rfl⟩,hk _ _ ?_ ?_ rfl⟩
  ·simp [execOp,ho,resolve,invoke,builtin,ha.ev hs,ha.ev hx,hrun]
  ·have hge:=grownCap_ge w (N+m) N e
   have hcm:grownCap w (N+m) N e≤maxLen:=grownCap_le_maxLen w (N+m) N e (by unfold maxLen;omega)
   have hlen':(xs++news).length=(N+m)*i.size:=by rw [List.length_append,hlen,hr.1,Nat.add_mul]
   refine ⟨hlen',.inr ⟨w.heap.size,_,_,rfl,heap_alloc_new w.drew _,hge,hcm,?_,?_⟩⟩
   ·simp only [Array.size_append,List.size_toArray,size_zeroCells,hz,hlen,hr.1,← Nat.add_mul]
    congr 1
    omega
   ·simp only [Array.toList_append,List.append_assoc]
    rw [← List.append_assoc,← hlen']
    exact List.take_left
  ·exact Fr.push _ _ _
theorem ov_append_none {s x:Operand} {t e:TypeId} {xv:Value} {N c:Nat} {ad:Option Addr} {i:TI} {sz by_:Nat} {z:Value} (hT:T.ok P)
  (ho:o.op = .call { callee:=.builtin .append,args:=#[s,x],argTypes:=#[t,t] }) (hs:env.ev? s=some (.slice ad N c)) (hx:env.ev? x=some xv)
  (ht:T.get? t=some ⟨sz,by_,z,.slice e⟩) (he:T.get? e=some i) (hr:Rd h i.size xv 0 []) (hc:N≤c):OpVal P n env o h (.slice ad N c):=fun w a hw ha=>by
 obtain ⟨⟨info,hi,hi2,hi3,hi4⟩,_⟩:=Tab.fits hT he
 have hu:P.underlying t=some (.slice e):=(Tab.fits hT ht).2
 have hrun:(Builtin.append_ #[t,t] o.type #[.slice ad N c,xv]).run P w = .ok (.slice ad N c) w:=by
  rcases hr.2 with ⟨rfl,_⟩ | ⟨b',p',c',rfl,_,_⟩<;>cases ad<;>simp [Builtin.append_,und (Tab.fits hT ht) hu,sizeOf,typeInfo,hi,Builtin.lenOf,Builtin.firstCells,hc,storeCells,loadCells,loadCellsFrom]
 simp [execOp,ho,resolve,invoke,builtin,ha.ev hs,ha.ev hx,hrun]
def setAt (c:List Value) (p:Nat) (vs:List Value):List Value:=c.take p++vs++c.drop (p+vs.length)
def putRow (h:Heap) (b:Nat) (c:List Value) (e:TypeId):Heap:=h.setIfInBounds b (.cells c.toArray e (0,0))
theorem setRow_eq (w:World) (g:Nat) (old cs:Array Value) (e:TypeId) (hg:w.heap[g]? = some (.cells old e (0,0))):(w.setRow g cs).heap=putRow w.heap g cs.toList e:=by
 have hlt:g<w.heap.size:=(Array.getElem?_eq_some_iff.1 hg).1
 apply Array.ext_getElem?
 intro k
 by_cases hk:k=g
 ·subst hk
  rw [setRow_heap w k old cs e (0,0) hg]
  simp [putRow,hlt]
 ·rw [setRow_other w g k cs hk]
  simp [putRow,Array.getElem?_setIfInBounds_ne (Ne.symm hk)]
theorem WO.store {ops:Array Oper} {l:List Oper} {K:Env→Heap→Prop} {t:TypeId} {x y:Operand} {b p:Nat} {v:Value} {vs:List Value} {i:TI} {c:List Value} {e:TypeId} (hT:T.ok P) (ho:o.op = .store t x y) (hg:gd ops env o=some true) (hd:o.dst=none)
  (hx:env.ev? x=some (.pointer (some ⟨b,p,none⟩))) (hy:env.ev? y=some v) (ht:T.get? t=some i) (hv:v.cells.toList=vs) (hl:Nat.beq vs.length i.size=true) (h1:One vs)
  (hblk:h[b]? = some (.cells c.toArray e (0,0))) (hfit:p+vs.length≤c.length)
  (hk:WO P n ops l K env (putRow h b (setAt c p vs) e)):WO P n ops (o::l) K env h:=by
 refine WO.skip (h':=putRow h b (setAt c p vs) e) hg hd (fun w a hw ha=>?_) hk
 subst hw
 have hst:=run_storeCells_at P b p e vs 0 c.toArray w hblk (by simpa using hfit) h1
 have hl':=Nat.eq_of_beq_eq_true hl
 have hv':v.cells.size=i.size:=by rw [← hl',← hv];simp
 refine ⟨w.setRow b (setAt c p vs).toArray,?_,⟨rfl,rfl,rfl⟩,?_⟩
 ·simp only [Nat.add_zero] at hst
  simp [execOp,ho,ha.ev hx,ha.ev hy,Instr.storeAt,Instr.sureAddr,storeVar,run_sizeOf (Tab.fits hT ht),hv',hv,hst,setAt]
 ·rw [setRow_eq w b c.toArray _ e hblk]
end
end Go.Pat
namespace Go.Pat
open Go
section
variable {P:Program} {n:Nat} {env:Env} {h:Heap} {o:Oper} {T:Tab}
theorem ov_slice3 {t:TypeId} {x hi mx:Operand} {ad:Option Addr} {len cap:Nat} {k k':IntKind} {p q:Int} {j:Nat} {e:TypeId} {sz by_ esz eby:Nat} {z ez:Value} {ek:TK} (hT:T.ok P) (ho:o.op = .slice t x none (some hi) (some mx))
  (hx:env.ev? x=some (.slice ad len cap)) (hhi:env.ev? hi=some (.int k p)) (hmx:env.ev? mx=some (.int k' q)) (ht:T.get? t=some ⟨sz,by_,z,.slice e⟩) (he:T.get? e=some ⟨esz,eby,ez,ek⟩) (hp:natOf p=some j) (hq:natOf q=some j) (hj:j≤cap) :
  OpVal P n env o h (.slice ad j j):=fun w a _ ha=>by
 replace hp:=natOf_eq hp
 replace hq:=natOf_eq hq
 have hu:P.underlying t=some (.slice e):=(Tab.fits hT ht).2
 have e0:∀ b:Addr,b.add 0=b:=fun b=>by simp [Addr.add]
 simp [execOp,ho,ha.ev hx,ha.ev hhi,ha.ev hmx,Instr.sliceAt,Instr.slice,Instr.sliceBounds,und (Tab.fits hT ht) hu,run_bound hq hj,run_bound hp (Nat.le_refl j),run_sizeOf (Tab.fits hT he),e0]
theorem ov_slice_lo {t:TypeId} {x lo:Operand} {b p0:Nat} {len cap:Nat} {k:IntKind} {p:Int} {i:Nat} {e:TypeId} {sz by_ esz eby:Nat} {z ez:Value} {ek:TK} (hT:T.ok P) (ho:o.op = .slice t x (some lo) none none)
  (hx:env.ev? x=some (.slice (some ⟨b,p0,none⟩) len cap)) (hlo:env.ev? lo=some (.int k p)) (ht:T.get? t=some ⟨sz,by_,z,.slice e⟩) (he:T.get? e=some ⟨esz,eby,ez,ek⟩) (hp:natOf p=some i) (hi:i≤len) :
  OpVal P n env o h (.slice (some (if cap=i then ⟨b,p0,none⟩ else ⟨b,p0+i*esz,none⟩)) (len-i) (cap-i)):=fun w a _ ha=>by
 replace hp:=natOf_eq hp
 have hu:P.underlying t=some (.slice e):=(Tab.fits hT ht).2
 simp [execOp,ho,ha.ev hx,ha.ev hlo,Instr.sliceAt,Instr.slice,Instr.sliceBounds,und (Tab.fits hT ht) hu,run_bound hp hi,run_sizeOf (Tab.fits hT he),add_plain]
 split<;>simp_all
theorem ov_slice_hi {t:TypeId} {x hi:Operand} {ad:Option Addr} {len cap:Nat} {k:IntKind} {p:Int} {j:Nat} {e:TypeId} {sz by_ esz eby:Nat} {z ez:Value} {ek:TK} (hT:T.ok P) (ho:o.op = .slice t x none (some hi) none)
  (hx:env.ev? x=some (.slice ad len cap)) (hhi:env.ev? hi=some (.int k p)) (ht:T.get? t=some ⟨sz,by_,z,.slice e⟩) (he:T.get? e=some ⟨esz,eby,ez,ek⟩) (hp:natOf p=some j) (hj:j≤cap) :
  OpVal P n env o h (.slice ad j cap):=fun w a _ ha=>by
 replace hp:=natOf_eq hp
 have hu:P.underlying t=some (.slice e):=(Tab.fits hT ht).2
 simp [execOp,ho,ha.ev hx,ha.ev hhi,Instr.sliceAt,Instr.slice,Instr.sliceBounds,und (Tab.fits hT ht) hu,run_bound hp hj,run_sizeOf (Tab.fits hT he),Addr.add]
theorem ov_slice_lohi {t:TypeId} {x lo hi:Operand} {b p0:Nat} {len cap:Nat} {k k':IntKind} {p q:Int} {i j:Nat} {e:TypeId} {sz by_ esz eby:Nat} {z ez:Value} {ek:TK} (hT:T.ok P) (ho:o.op = .slice t x (some lo) (some hi) none)
  (hx:env.ev? x=some (.slice (some ⟨b,p0,none⟩) len cap)) (hlo:env.ev? lo=some (.int k p)) (hhi:env.ev? hi=some (.int k' q)) (ht:T.get? t=some ⟨sz,by_,z,.slice e⟩) (he:T.get? e=some ⟨esz,eby,ez,ek⟩) (hp:natOf p=some i) (hq:natOf q=some j) (hij:i≤j) (hj:j≤cap) :
  OpVal P n env o h (.slice (some (if cap=i then ⟨b,p0,none⟩ else ⟨b,p0+i*esz,none⟩)) (j-i) (cap-i)):=fun w a _ ha=>by
 replace hp:=natOf_eq hp
 replace hq:=natOf_eq hq
 have hu:P.underlying t=some (.slice e):=(Tab.fits hT ht).2
 simp [execOp,ho,ha.ev hx,ha.ev hlo,ha.ev hhi,Instr.sliceAt,Instr.slice,Instr.sliceBounds,und (Tab.fits hT ht) hu,run_bound hq hj,run_bound hp hij,run_sizeOf (Tab.fits hT he),add_plain]
 split<;>simp_all
theorem run_eqGuard_ne {op:BinOp} {t:TypeId} {x y:Operand} {a b:Value} (h1:a ≠ .nilIface) (h2:∀ c,a ≠ .agg c) (w:World):(eqGuard op t x y a b).run P w = .ok () w:=by
 unfold eqGuard
 cases op<;>cases a<;>simp_all
theorem equal_succ (t:TypeId) (x y:Value):Op.equal t x y=Op.equalIn (9999+1) t x y:=rfl
theorem run_eq_bool {t:TypeId} {i:TI} (hf:i.fits P t) (hu:P.underlying t=some .bool) (d:Nat) (p q:Bool) (w:World):(Op.equalIn (d+1) t (.bool p) (.bool q)).run P w = .ok (p == q) w:=by
 unfold Op.equalIn
 simp [und hf hu]
theorem run_eq_int {t:TypeId} {i:TI} {k:IntKind} (hf:i.fits P t) (hu:P.underlying t=some (.int k)) (d:Nat) (j:IntKind) (p q:Int) (w:World):(Op.equalIn (d+1) t (.int j p) (.int j q)).run P w = .ok (decide (p=q)) w:=by
 unfold Op.equalIn
 simp [und hf hu];rfl
theorem run_eq_ptr {t e:TypeId} {i:TI} (hf:i.fits P t) (hu:P.underlying t=some (.pointer e)) (d:Nat) (p:Option Addr) (w:World):(Op.equalIn (d+1) t (.pointer p) (.pointer none)).run P w = .ok p.isNone w:=by
 unfold Op.equalIn
 cases p<;>simp [und hf hu]
theorem run_eq_slice {t e:TypeId} {i:TI} (hf:i.fits P t) (hu:P.underlying t=some (.slice e)) (d:Nat) (p:Option Addr) (len cap l c:Nat) (w:World):(Op.equalIn (d+1) t (.slice p len cap) (.slice none l c)).run P w = .ok p.isNone w:=by
 unfold Op.equalIn
 cases p<;>simp [und hf hu]
theorem ov_beql {t u:TypeId} {x y:Operand} {p q:Bool} {sz by_:Nat} {z:Value} (hT:T.ok P) (ho:o.op = .binOp .eql t x y u) (hx:env.ev? x=some (.bool p)) (hy:env.ev? y=some (.bool q)) (ht:T.get? t=some ⟨sz,by_,z,.bool⟩) :
  OpVal P n env o h (.bool (p == q)):=fun w a _ ha=>by
 have hu:P.underlying t=some .bool:=(Tab.fits hT ht).2
 have hg:(eqGuard .eql t x y (.bool p) (.bool q)).run P w = .ok () w:=run_eqGuard_ne (by simp) (by simp) w
 simp [execOp,ho,ha.ev hx,ha.ev hy,hg,binOp,equal_succ,run_eq_bool (Tab.fits hT ht) hu]
theorem ov_peql_nil {t u:TypeId} {x y:Operand} {p:Option Addr} {e:TypeId} {sz by_:Nat} {z:Value} (hT:T.ok P) (ho:o.op = .binOp .eql t x y u) (hx:env.ev? x=some (.pointer p)) (hy:env.ev? y=some (.pointer none)) (ht:T.get? t=some ⟨sz,by_,z,.ptr e⟩) :
  OpVal P n env o h (.bool p.isNone):=fun w a _ ha=>by
 have hu:P.underlying t=some (.pointer e):=(Tab.fits hT ht).2
 have hg:(eqGuard .eql t x y (.pointer p) (.pointer none)).run P w = .ok () w:=run_eqGuard_ne (by simp) (by simp) w
 simp [execOp,ho,ha.ev hx,ha.ev hy,hg,binOp,equal_succ,run_eq_ptr (Tab.fits hT ht) hu]
theorem ov_pneq_nil {t u:TypeId} {x y:Operand} {p:Option Addr} {e:TypeId} {sz by_:Nat} {z:Value} (hT:T.ok P) (ho:o.op = .binOp .neq t x y u) (hx:env.ev? x=some (.pointer p)) (hy:env.ev? y=some (.pointer none)) (ht:T.get? t=some ⟨sz,by_,z,.ptr e⟩) :
  OpVal P n env o h (.bool p.isSome):=fun w a _ ha=>by
 have hu:P.underlying t=some (.pointer e):=(Tab.fits hT ht).2
 have hg:(eqGuard .neq t x y (.pointer p) (.pointer none)).run P w = .ok () w:=run_eqGuard_ne (by simp) (by simp) w
 simp [execOp,ho,ha.ev hx,ha.ev hy,hg,binOp,equal_succ,run_eq_ptr (Tab.fits hT ht) hu]
theorem ov_leql_nil {t u:TypeId} {x y:Operand} {p:Option Addr} {len cap l c:Nat} {e:TypeId} {sz by_:Nat} {z:Value} (hT:T.ok P) (ho:o.op = .binOp .eql t x y u) (hx:env.ev? x=some (.slice p len cap)) (hy:env.ev? y=some (.slice none l c)) (ht:T.get? t=some ⟨sz,by_,z,.slice e⟩) :
  OpVal P n env o h (.bool p.isNone):=fun w a _ ha=>by
 have hu:P.underlying t=some (.slice e):=(Tab.fits hT ht).2
 have hg:(eqGuard .eql t x y (.slice p len cap) (.slice none l c)).run P w = .ok () w:=run_eqGuard_ne (by simp) (by simp) w
 simp [execOp,ho,ha.ev hx,ha.ev hy,hg,binOp,equal_succ,run_eq_slice (Tab.fits hT ht) hu]
structure Two (P:Program) (t:TypeId) (k₁ k₂:IntKind):Prop where
 fields:∃ f₁ f₂:Field,P.underlying t=some (.struct #[f₁,f₂])∧(f₁.name == "_")=false∧(f₂.name == "_")=false∧f₁.offset=0∧f₂.offset=1∧P.underlying f₁.type=some (.int k₁)∧P.underlying f₂.type=some (.int k₂)∧(P.info? f₁.type).isSome=true∧(P.info? f₂.type).isSome=true
 held:P.stoodInHeld t=false
 guard:P.eqGuardType P.depth t=false
theorem run_und {t:TypeId} {d:TypeDesc} (hd:P.underlying t=some d) (w:World):(underlying t).run P w = .ok d w:=by
 simp [underlying,program,Sem.run,hd]
theorem run_eq_two {t:TypeId} {k₁ k₂:IntKind} (h2:Two P t k₁ k₂) (d:Nat) (a b a' b':Int) (w:World) :
  (Op.equalIn (d+2) t (.agg #[.int k₁ a,.int k₂ b]) (.agg #[.int k₁ a',.int k₂ b'])).run P w = .ok (decide (a=a'∧b=b')) w:=by
 obtain ⟨⟨f₁,f₂,hu,n1,n2,o1,o2,u1,u2,i1,i2⟩,hh,_⟩:=h2
 have n1':¬ f₁.name = "_":=by simpa using n1
 have n2':¬ f₂.name = "_":=by simpa using n2
 have e1:∀ p q,(Op.equalIn (d+1) f₁.type (.int k₁ p) (.int k₁ q)).run P w = .ok (decide (p=q)) w:=fun p q=>by
  unfold Op.equalIn;simp [run_und u1];rfl
 have e2:∀ p q,(Op.equalIn (d+1) f₂.type (.int k₂ p) (.int k₂ q)).run P w = .ok (decide (p=q)) w:=fun p q=>by
  unfold Op.equalIn;simp [run_und u2];rfl
 have g1:(isAgg f₁.type).run P w = .ok false w:=by simp [isAgg,run_und u1]
 have g2:(isAgg f₂.type).run P w = .ok false w:=by simp [isAgg,run_und u2]
 rw [Op.equalIn]
 simp [run_und hu,program,Sem.run,hh,n1',n2',part,g1,g2,o1,o2,e1,e2]
 by_cases q1:a=a'<;>by_cases q2:b=b'<;>simp [q1,q2]
theorem ov_eql2 {t u:TypeId} {x y:Operand} {k₁ k₂:IntKind} {a b a' b':Int} (h2:Two P t k₁ k₂) (ho:o.op = .binOp .eql t x y u) (hx:env.ev? x=some (.agg #[.int k₁ a,.int k₂ b])) (hy:env.ev? y=some (.agg #[.int k₁ a',.int k₂ b'])) :
  OpVal P n env o h (.bool (decide (a=a'∧b=b'))):=fun w c _ ha=>by
 have hg:(eqGuard .eql t x y (.agg #[.int k₁ a,.int k₂ b]) (.agg #[.int k₁ a',.int k₂ b'])).run P w = .ok () w:=by
  unfold eqGuard;simp [program,Sem.run,h2.guard]
 have:=run_eq_two h2 9998 a b a' b' w
 simp [execOp,ho,ha.ev hx,ha.ev hy,hg,binOp,equal_succ,this]
theorem ov_neq2 {t u:TypeId} {x y:Operand} {k₁ k₂:IntKind} {a b a' b':Int} (h2:Two P t k₁ k₂) (ho:o.op = .binOp .neq t x y u) (hx:env.ev? x=some (.agg #[.int k₁ a,.int k₂ b])) (hy:env.ev? y=some (.agg #[.int k₁ a',.int k₂ b'])) :
  OpVal P n env o h (.bool (!decide (a=a'∧b=b'))):=fun w c _ ha=>by
 have hg:(eqGuard .neq t x y (.agg #[.int k₁ a,.int k₂ b]) (.agg #[.int k₁ a',.int k₂ b'])).run P w = .ok () w:=by
  unfold eqGuard;simp [program,Sem.run,h2.guard]
 have:=run_eq_two h2 9998 a b a' b' w
 simp [execOp,ho,ha.ev hx,ha.ev hy,hg,binOp,equal_succ,this]
theorem ov_conv {s d:TypeId} {x:Operand} {k k':IntKind} {q:Int} {i:TI} {sz by_:Nat} {z:Value} (hT:T.ok P) (ho:o.op = .convert s d x) (hx:env.ev? x=some (.int k q)) (hs:T.get? s=some i) (hd:T.get? d=some ⟨sz,by_,z,.int k'⟩) (hr:inK k' q) :
  OpVal P n env o h (.int k' q):=fun w a _ ha=>by
 have hu:P.underlying d=some (.int k'):=(Tab.fits hT hd).2
 have hus:∃ ds,P.underlying s=some ds:=by
  have:=(Tab.fits hT hs).2
  rcases hk:i.kind with k | (_ | _) | e | e | fs | ⟨m,e⟩<;>rw [hk] at this<;>simp only [TK.fits] at this
  case inr.inr.inr.inr.inl=>obtain ⟨f,h1,_⟩:=this;exact ⟨_,h1⟩
  all_goals exact ⟨_,this⟩
 obtain ⟨ds,hus⟩:=hus
 simp [execOp,ho,ha.ev hx,convert,und (Tab.fits hT hs) hus,und (Tab.fits hT hd) hu,Conv.intToInt,show k'.wrap q=q from hr]
end
end Go.Pat
namespace Go.Pat
open Go
def oneList:Value→Option (List Value)
 | .agg ⟨l⟩=>some l
 | .tuple _=>none
 | v=>some [v]
theorem oneList_cells {v:Value} {vs:List Value} (h:oneList v=some vs):v.cells=vs.toArray:=by
 cases v with
 | agg c=>cases c;simp [oneList] at h;subst h;rfl
 | tuple c=>simp [oneList] at h
 | _=>simp [oneList] at h;subst h;rfl
def Moved (h:Heap) (v v':Value):Prop:=∀ k,v'.ownBlock=some k→v.ownBlock=some k∨h.size≤k
section
variable {P:Program} {n:Nat} {env:Env} {h:Heap} {o o₂:Oper} {T:Tab}
theorem setAll_self (vs:List Value):∀ (pre l:List Value),l.length=vs.length→setAll (pre++l) pre.length vs=pre++vs:=by
 induction vs with
 | nil=>intro pre l hl;simp at hl;subst hl;simp [setAll]
 | cons v r ih =>
  intro pre l hl
  cases l with
  | nil=>simp at hl
  | cons x l =>
   simp only [setAll]
   rw [List.set_append_right _ _ (Nat.le_refl _)]
   simp only [Nat.sub_self,List.set_cons_zero]
   have:=ih (pre++[v]) l (by simpa using hl)
   simpa using this
theorem ox_build1 {t e:TypeId} {x:Operand} {u:Value} {vs:List Value} {sz by_:Nat} {z:Value} {i:TI} {K:Value→Heap→Prop} (hT:T.ok P) (ho:o.op = .buildSlice t 1 #[(0,x)])
  (ht:T.get? t=some ⟨sz,by_,z,.slice e⟩) (he:T.get? e=some i) (hpos:Nat.blt 0 i.size=true) (hle:Nat.ble i.size 16777216=true)
  (hx:env.ev? x=some u) (hvs:oneList u=some vs) (hl:Nat.beq vs.length i.size=true)
  (hk:K (.slice (some ⟨h.size,0,none⟩) 1 1) (h.push (.cells vs.toArray e (0,0)))):OpEx P n env o h K:=fun w a hw ha=>by
 subst hw
 have hu:P.underlying t=some (.slice e):=(Tab.fits hT ht).2
 have hc:=oneList_cells hvs
 have hl':=Nat.eq_of_beq_eq_true hl
 have hle':=Nat.le_of_ble_eq_true hle
 rw [Nat.blt_eq] at hpos
 have hz:¬ i.size=0:=by omega
 have hz2:¬ (2 ^ 24<i.size):=by omega
 have hfill:Instr.fill (fun j=>some (j*i.size,i.size)) ((Array.range (1*i.size)).map fun j=>i.zero.cells[j % i.zero.cells.size]!) [(0,u)]=some vs.toArray:=by
  have h1:=fill_placed (place:=fun j=>some (j*i.size,i.size)) [(0,u)] ((Array.range (1*i.size)).map fun j=>i.zero.cells[j % i.zero.cells.size]!) [(0*i.size,u)] (by
   simp [placed,hc,hl',Nat.ble_eq_true_of_le (Nat.le_refl i.size)])
  rw [h1]
  simp only [fillL,hc,Nat.zero_mul]
  have h2:=setAll_self vs [] ((Array.range (1*i.size)).map fun j=>i.zero.cells[j % i.zero.cells.size]!).toList (by simp [hl'])
  simp only [List.nil_append,List.length_nil] at h2
  rw [h2]
 refine ⟨_,w.alloc _,?_,⟨rfl,rfl,rfl⟩,hk⟩
 simp only [Nat.one_mul] at hfill
 simp [execOp,ho,Instr.buildSlice,und (Tab.fits hT ht) hu,run_sizeOf (Tab.fits hT he),hz,hz2,run_zero (Tab.fits hT he),ha.ev hx,hfill,newRow]
theorem WO.push {ops:Array Oper} {l:List Oper} {K:Env→Heap→Prop} {t e:TypeId} {x s:Operand} {u v:Value} {vs xs:List Value} {N sz by_ d d₂ esz eby:Nat} {z ez:Value} {ek:TK} (hT:T.ok P)
  (ho:o.op = .buildSlice t 1 #[(0,x)]) (hg:gd ops env o=some true) (hd:o.dst=some d) (hn:Nat.blt d n=true)
  (ho₂:o₂.op = .call { callee:=.builtin .append,args:=#[s,.tmp d],argTypes:=#[t,t] }) (hg₂:o₂.guard=none) (hd₂:o₂.dst=some d₂) (hn₂:Nat.blt d₂ n=true)
  (ht:T.get? t=some ⟨sz,by_,z,.slice e⟩) (he:T.get? e=some ⟨esz,eby,ez,ek⟩) (hpos:Nat.blt 0 esz=true) (hle:Nat.ble esz 16777216=true) (hz:ez.cells.size=esz)
  (hx:env.ev? x=some u) (hvs:oneList u=some vs) (hl:Nat.beq vs.length esz=true) (hs:env.ev? s=some v) (hsd:s ≠ .tmp d) (h1:One vs)
  (hown:Own h e esz v N xs) (hb:(N+1)*(eby+1)≤140737488355328)
  (hk:∀ v' h',Own h' e esz v' (N+1) (xs++vs)→Fr (fun k=>v.ownBlock=some k) h h'→Moved h v v'→WO P n ops l K ((d₂,v')::(d,.slice (some ⟨h.size,0,none⟩) 1 1)::env) h') :
  WO P n ops (o::o₂::l) K env h:=by
 refine WO.ex hg hd hn (ox_build1 hT ho ht he hpos hle hx hvs hl ?_)
 have hs':Env.ev? ((d,.slice (some ⟨h.size,0,none⟩) 1 1)::env) s=some v:=by
  cases s with
  | tmp q=>simp only [Env.ev?] at hs ⊢;rw [Env.get?_cons,if_neg (fun e=>hsd (by rw [e])),hs]
  | _=>exact hs
 have hd':Env.ev? ((d,.slice (some ⟨h.size,0,none⟩) 1 1)::env) (.tmp d)=some (.slice (some ⟨h.size,0,none⟩) 1 1):=by
  simp only [Env.ev?];rw [Env.get?_cons,if_pos rfl]
 have hg₂':gd ops ((d,.slice (some ⟨h.size,0,none⟩) 1 1)::env) o₂=some true:=by simp [gd,hg₂]
 refine WO.ex hg₂' hd₂ hn₂ (ox_append (xs:=xs) (N:=N) hT ho₂ hs' hd' ht he hz hpos (hown.fr (Fr.push (fun _=>False) h _) (by simp)) ⟨by rw [Nat.one_mul];exact Nat.eq_of_beq_eq_true hl,.inr ⟨_,_,_,rfl,Nat.le_refl _,cells_push_new vs e _⟩⟩ h1 hb ?_)
 intro v' h' q1 q2 q3
 refine hk v' h' q1 ⟨?_,fun b hb hb'=>?_⟩ ?_
 ·have:=q2.size;simp at this;omega
 ·rw [q2.same b (by simp;omega) hb',Array.getElem?_push,if_neg (by omega)]
 ·intro k hk
  rcases q3 with q3 | q3
  ·exact .inl (by rw [← q3];exact hk)
  ·right;rw [q3] at hk;cases hk;simp
theorem foldl_push:∀ (l:List UInt8) (r:List UInt8),(l.map fun (b:UInt8)=>(b.toNat:Int)).foldl (fun (r:ByteArray) (n:Int)=>r.push (UInt8.ofNat n.toNat)) (str r)=str (r++l):=by
 intro l
 induction l with
 | nil=>intro r;simp
 | cons x l ih =>
  intro r
  simp only [List.map_cons,List.foldl_cons]
  have e:(str r).push (UInt8.ofNat (x.toNat:Int).toNat)=str (r++[x]):=by
   apply ByteArray.ext
   simp [str,ByteArray.push]
  rw [e,ih (r++[x])]
  simp
theorem ov_bstr {s d e:TypeId} {x:Operand} {b p c:Nat} {l:List UInt8} {sz by_ sz' by' esz eby:Nat} {z z' ez:Value} (hT:T.ok P) (ho:o.op = .convert s d x) (hx:env.ev? x=some (.slice (some ⟨b,p,none⟩) l.length c))
  (hs:T.get? s=some ⟨sz,by_,z,.slice e⟩) (he:T.get? e=some ⟨esz,eby,ez,.int .u8⟩) (hd:T.get? d=some ⟨sz',by',z',.string⟩) (hc:Cells h b p (l.map fun (q:UInt8)=>Value.int .u8 (q.toNat:Int))) :
  OpVal P n env o h (.string (str l)):=fun w a hw ha=>by
 subst hw
 have us:P.underlying s=some (.slice e):=(Tab.fits hT hs).2
 have ue:P.underlying e=some (.int .u8):=(Tab.fits hT he).2
 have ud:P.underlying d=some .string:=(Tab.fits hT hd).2
 have hl:=run_loadCellsFrom (P:=P) (l.map fun (q:UInt8)=>Value.int .u8 (q.toNat:Int)) 0 #[] (by simpa using hc)
 have h1:=run_bytesToString (P:=P) w ⟨b,p,none⟩ l.length c (l.map fun (q:UInt8)=>(q.toNat:Int)) (by
  simp only [List.length_map] at hl
  rw [loadCells,hl]
  simp [Function.comp_def])
 have h2:=foldl_push l []
 rw [List.nil_append] at h2
 have h3:(ByteArray.empty:ByteArray)=str []:=rfl
 rw [h3,h2] at h1
 have h4:=run_convert_bytes_string (P:=P) w s d e (some ⟨b,p,none⟩) l.length c us ue ud
 rw [h1] at h4
 simp [execOp,ho,ha.ev hx,h4]
end
end Go.Pat
