import Derived.Test.YtlaffgagmncgjabDoorProg
import Derived.Test.YtlaffgagmncgjabDoorMem2
namespace Go.Pat
open Go
def TK.of:TypeDesc→Option TK
 | .int k=>some (.int k)
 | .bool=>some .bool
 | .string=>some .string
 | .pointer e=>some (.ptr e)
 | .slice e=>some (.slice e)
 | .struct fs=>some (.struct (fs.toList.map fun f=>(f.offset,f.type)))
 | .array n e=>some (.array n e)
 | _=>none
theorem fits_of {P:Program} {t:TypeId} {i:TI} (h1:(P.info? t).map (fun j=>(j.size,j.bytes,j.zero))=some (i.size,i.bytes,some i.zero)) (h2:(P.underlying t).bind TK.of=some i.kind):i.fits P t:=by
 constructor
 ·cases h:P.info? t with
  | none=>simp [h] at h1
  | some j=>simp [h] at h1;exact ⟨j,rfl,h1⟩
 ·cases h:P.underlying t with
  | none=>simp [h] at h2
  | some d =>
   simp only [h,Option.bind_some] at h2
   cases d<;>simp [TK.of] at h2<;>rw [← h2]<;>simp [TK.fits]
end Go.Pat
namespace Go.Proofs.YtlaffgagmncgjabDoor
open Go Go.Pat Go.Proofs
theorem tab3:(⟨1,8,.int .i64 0,.int .i64⟩:TI).fits Tryd.prog 3:=fits_of (by kernel_rfl) (by kernel_rfl)
theorem tab9:(⟨1,16,.string (str []),.string⟩:TI).fits Tryd.prog 9:=fits_of (by kernel_rfl) (by kernel_rfl)
theorem tab4:(⟨1,1,.bool false,.bool⟩:TI).fits Tryd.prog 4:=fits_of (by kernel_rfl) (by kernel_rfl)
theorem tab2:(⟨1,8,.int .i64 0,.int .i64⟩:TI).fits Tryd.prog 2:=fits_of (by kernel_rfl) (by kernel_rfl)
theorem tab5:(⟨1,1,.int .u8 0,.int .u8⟩:TI).fits Tryd.prog 5:=fits_of (by kernel_rfl) (by kernel_rfl)
theorem tab21:(⟨1,4,.int .i32 0,.int .i32⟩:TI).fits Tryd.prog 21:=fits_of (by kernel_rfl) (by kernel_rfl)
theorem tab22:(⟨1,24,.slice none 0 0,.slice 9⟩:TI).fits Tryd.prog 22:=fits_of (by kernel_rfl) (by kernel_rfl)
theorem tab24:(⟨1,8,.pointer none,.ptr 65⟩:TI).fits Tryd.prog 24:=fits_of (by kernel_rfl) (by kernel_rfl)
theorem tab36:(⟨1,8,.int .i64 0,.int .i64⟩:TI).fits Tryd.prog 36:=fits_of (by kernel_rfl) (by kernel_rfl)
theorem tab38:(⟨1,24,.slice none 0 0,.slice 3⟩:TI).fits Tryd.prog 38:=fits_of (by kernel_rfl) (by kernel_rfl)
theorem tab51:(⟨1,24,.slice none 0 0,.slice 55⟩:TI).fits Tryd.prog 51:=fits_of (by kernel_rfl) (by kernel_rfl)
theorem tab55:(⟨4,64,.agg #[.string (str []),.string (str []),.string (str []),.string (str [])],.struct [(0,9),(1,9),(2,9),(3,9)]⟩:TI).fits Tryd.prog 55:=fits_of (by kernel_rfl) (by kernel_rfl)
theorem tab58:(⟨1,24,.slice none 0 0,.slice 4⟩:TI).fits Tryd.prog 58:=fits_of (by kernel_rfl) (by kernel_rfl)
theorem tab61:(⟨2,48,.agg #[.slice none 0 0,.slice none 0 0],.struct [(0,22),(1,22)]⟩:TI).fits Tryd.prog 61:=fits_of (by kernel_rfl) (by kernel_rfl)
theorem tab63:(⟨1,24,.slice none 0 0,.slice 68⟩:TI).fits Tryd.prog 63:=fits_of (by kernel_rfl) (by kernel_rfl)
theorem tab65:(⟨1,24,.agg #[.slice none 0 0],.struct [(0,63)]⟩:TI).fits Tryd.prog 65:=fits_of (by kernel_rfl) (by kernel_rfl)
theorem tab66:(⟨1,24,.slice none 0 0,.slice 106⟩:TI).fits Tryd.prog 66:=fits_of (by kernel_rfl) (by kernel_rfl)
theorem tab68:(⟨3,56,.agg #[.int .i64 0,.slice none 0 0,.slice none 0 0],.struct [(0,3),(1,38),(2,66)]⟩:TI).fits Tryd.prog 68:=fits_of (by kernel_rfl) (by kernel_rfl)
theorem tab86:(⟨1,24,.slice none 0 0,.slice 92⟩:TI).fits Tryd.prog 86:=fits_of (by kernel_rfl) (by kernel_rfl)
theorem tab90:(⟨2,16,.agg #[.int .i64 0,.int .i64 0],.struct [(0,3),(1,3)]⟩:TI).fits Tryd.prog 90:=fits_of (by kernel_rfl) (by kernel_rfl)
theorem tab92:(⟨5,56,.agg #[.int .i64 0,.int .i64 0,.string (str []),.string (str []),.int .i64 0],.struct [(0,90),(2,9),(3,9),(4,3)]⟩:TI).fits Tryd.prog 92:=fits_of (by kernel_rfl) (by kernel_rfl)
theorem tab94:(⟨1,8,.pointer none,.ptr 96⟩:TI).fits Tryd.prog 94:=fits_of (by kernel_rfl) (by kernel_rfl)
theorem tab96:(⟨2,24,.agg #[.string (str []),.int .i64 0],.struct [(0,9),(1,3)]⟩:TI).fits Tryd.prog 96:=fits_of (by kernel_rfl) (by kernel_rfl)
theorem tab106:(⟨6,56,.agg #[.int .i64 0,.int .i64 0,.int .i64 0,.int .i64 0,.int .i64 0,.string (str [])],.struct [(0,3),(1,90),(3,90),(5,9)]⟩:TI).fits Tryd.prog 106:=fits_of (by kernel_rfl) (by kernel_rfl)
theorem tab112:(⟨1,24,.slice none 0 0,.slice 5⟩:TI).fits Tryd.prog 112:=fits_of (by kernel_rfl) (by kernel_rfl)
theorem tab113:(⟨1,8,.pointer none,.ptr 126⟩:TI).fits Tryd.prog 113:=fits_of (by kernel_rfl) (by kernel_rfl)
theorem tab122:(⟨1,24,.slice none 0 0,.slice 38⟩:TI).fits Tryd.prog 122:=fits_of (by kernel_rfl) (by kernel_rfl)
theorem tab123:(⟨1,24,.slice none 0 0,.slice 130⟩:TI).fits Tryd.prog 123:=fits_of (by kernel_rfl) (by kernel_rfl)
theorem tab124:(⟨1,24,.slice none 0 0,.slice 58⟩:TI).fits Tryd.prog 124:=fits_of (by kernel_rfl) (by kernel_rfl)
theorem tab126:(⟨4,96,.agg #[.slice none 0 0,.slice none 0 0,.slice none 0 0,.slice none 0 0],.struct [(0,63),(1,122),(2,123),(3,124)]⟩:TI).fits Tryd.prog 126:=fits_of (by kernel_rfl) (by kernel_rfl)
theorem tab130:(⟨13,104,.agg #[.int .i64 0,.int .i64 0,.int .i64 0,.int .i64 0,.int .i64 0,.int .i64 0,.string (str []),.int .i64 0,.bool false,.bool false,.int .i64 0,.int .i64 0,.int .i64 0],.struct [(0,90),(2,90),(4,90),(6,9),(7,3),(8,4),(9,4),(10,3),(11,3),(12,3)]⟩:TI).fits Tryd.prog 130:=fits_of (by kernel_rfl) (by kernel_rfl)
theorem tab141:(⟨24,24,.agg #[.int .u8 0,.int .u8 0,.int .u8 0,.int .u8 0,.int .u8 0,.int .u8 0,.int .u8 0,.int .u8 0,.int .u8 0,.int .u8 0,.int .u8 0,.int .u8 0,.int .u8 0,.int .u8 0,.int .u8 0,.int .u8 0,.int .u8 0,.int .u8 0,.int .u8 0,.int .u8 0,.int .u8 0,.int .u8 0,.int .u8 0,.int .u8 0],.array 24 5⟩:TI).fits Tryd.prog 141:=fits_of (by kernel_rfl) (by kernel_rfl)
theorem tab142:(⟨1,8,.int .u64 0,.int .u64⟩:TI).fits Tryd.prog 142:=fits_of (by kernel_rfl) (by kernel_rfl)
theorem tab154:(⟨1,4,.int .u32 0,.int .u32⟩:TI).fits Tryd.prog 154:=fits_of (by kernel_rfl) (by kernel_rfl)
theorem tab156:(⟨1,8,.int .u64 0,.int .u64⟩:TI).fits Tryd.prog 156:=fits_of (by kernel_rfl) (by kernel_rfl)
theorem tab170:(⟨1,8,.pointer none,.ptr 5⟩:TI).fits Tryd.prog 170:=fits_of (by kernel_rfl) (by kernel_rfl)
def tab:Tab:=[
 (3,⟨1,8,.int .i64 0,.int .i64⟩),
 (9,⟨1,16,.string (str []),.string⟩),
 (4,⟨1,1,.bool false,.bool⟩),
 (2,⟨1,8,.int .i64 0,.int .i64⟩),
 (5,⟨1,1,.int .u8 0,.int .u8⟩),
 (21,⟨1,4,.int .i32 0,.int .i32⟩),
 (22,⟨1,24,.slice none 0 0,.slice 9⟩),
 (24,⟨1,8,.pointer none,.ptr 65⟩),
 (36,⟨1,8,.int .i64 0,.int .i64⟩),
 (38,⟨1,24,.slice none 0 0,.slice 3⟩),
 (51,⟨1,24,.slice none 0 0,.slice 55⟩),
 (55,⟨4,64,.agg #[.string (str []),.string (str []),.string (str []),.string (str [])],.struct [(0,9),(1,9),(2,9),(3,9)]⟩),
 (58,⟨1,24,.slice none 0 0,.slice 4⟩),
 (61,⟨2,48,.agg #[.slice none 0 0,.slice none 0 0],.struct [(0,22),(1,22)]⟩),
 (63,⟨1,24,.slice none 0 0,.slice 68⟩),
 (65,⟨1,24,.agg #[.slice none 0 0],.struct [(0,63)]⟩),
 (66,⟨1,24,.slice none 0 0,.slice 106⟩),
 (68,⟨3,56,.agg #[.int .i64 0,.slice none 0 0,.slice none 0 0],.struct [(0,3),(1,38),(2,66)]⟩),
 (86,⟨1,24,.slice none 0 0,.slice 92⟩),
 (90,⟨2,16,.agg #[.int .i64 0,.int .i64 0],.struct [(0,3),(1,3)]⟩),
 (92,⟨5,56,.agg #[.int .i64 0,.int .i64 0,.string (str []),.string (str []),.int .i64 0],.struct [(0,90),(2,9),(3,9),(4,3)]⟩),
 (94,⟨1,8,.pointer none,.ptr 96⟩),
 (96,⟨2,24,.agg #[.string (str []),.int .i64 0],.struct [(0,9),(1,3)]⟩),
 (106,⟨6,56,.agg #[.int .i64 0,.int .i64 0,.int .i64 0,.int .i64 0,.int .i64 0,.string (str [])],.struct [(0,3),(1,90),(3,90),(5,9)]⟩),
 (112,⟨1,24,.slice none 0 0,.slice 5⟩),
 (113,⟨1,8,.pointer none,.ptr 126⟩),
 (122,⟨1,24,.slice none 0 0,.slice 38⟩),
 (123,⟨1,24,.slice none 0 0,.slice 130⟩),
 (124,⟨1,24,.slice none 0 0,.slice 58⟩),
 (126,⟨4,96,.agg #[.slice none 0 0,.slice none 0 0,.slice none 0 0,.slice none 0 0],.struct [(0,63),(1,122),(2,123),(3,124)]⟩),
 (130,⟨13,104,.agg #[.int .i64 0,.int .i64 0,.int .i64 0,.int .i64 0,.int .i64 0,.int .i64 0,.string (str []),.int .i64 0,.bool false,.bool false,.int .i64 0,.int .i64 0,.int .i64 0],.struct [(0,90),(2,90),(4,90),(6,9),(7,3),(8,4),(9,4),(10,3),(11,3),(12,3)]⟩),
 (141,⟨24,24,.agg #[.int .u8 0,.int .u8 0,.int .u8 0,.int .u8 0,.int .u8 0,.int .u8 0,.int .u8 0,.int .u8 0,.int .u8 0,.int .u8 0,.int .u8 0,.int .u8 0,.int .u8 0,.int .u8 0,.int .u8 0,.int .u8 0,.int .u8 0,.int .u8 0,.int .u8 0,.int .u8 0,.int .u8 0,.int .u8 0,.int .u8 0,.int .u8 0],.array 24 5⟩),
 (142,⟨1,8,.int .u64 0,.int .u64⟩),
 (154,⟨1,4,.int .u32 0,.int .u32⟩),
 (156,⟨1,8,.int .u64 0,.int .u64⟩),
 (170,⟨1,8,.pointer none,.ptr 5⟩)]
theorem tab_ok:tab.ok Tryd.prog:=by
 intro p hp
 simp only [tab,List.mem_cons,List.not_mem_nil,or_false] at hp
 rcases hp with rfl | rfl | rfl | rfl | rfl | rfl | rfl | rfl | rfl | rfl | rfl | rfl | rfl | rfl | rfl | rfl | rfl | rfl | rfl | rfl | rfl | rfl | rfl | rfl | rfl | rfl | rfl | rfl | rfl | rfl | rfl | rfl | rfl | rfl | rfl | rfl
 ·exact tab3
 ·exact tab9
 ·exact tab4
 ·exact tab2
 ·exact tab5
 ·exact tab21
 ·exact tab22
 ·exact tab24
 ·exact tab36
 ·exact tab38
 ·exact tab51
 ·exact tab55
 ·exact tab58
 ·exact tab61
 ·exact tab63
 ·exact tab65
 ·exact tab66
 ·exact tab68
 ·exact tab86
 ·exact tab90
 ·exact tab92
 ·exact tab94
 ·exact tab96
 ·exact tab106
 ·exact tab112
 ·exact tab113
 ·exact tab122
 ·exact tab123
 ·exact tab124
 ·exact tab126
 ·exact tab130
 ·exact tab141
 ·exact tab142
 ·exact tab154
 ·exact tab156
 ·exact tab170
theorem mixed:Tryd.prog.follows .mixedOrders=true:=by kernel_rfl
end Go.Proofs.YtlaffgagmncgjabDoor
namespace Go.Proofs.YtlaffgagmncgjabDoor
open Go Go.Pat
section
variable {n d:Nat} {ops:Array Oper} {l:List Oper} {K:Env→Heap→Prop} {o:Oper} {env:Env} {h:Heap}
theorem zo1 {v:Value} (hk:WO Tryd.prog n ops l K ((d,v)::env) h) (hv:pv tab env o.op=some v:=by exact rfl) (hg:gd ops env o=some true:=by exact rfl) (hd:o.dst=some d:=by exact rfl) (hn:Nat.blt d n=true:=by exact rfl) :
  WO Tryd.prog n ops (o::l) K env h:=WO.val (ov_pv tab_ok hv) hg hd hn hk
theorem zo2 {t:TypeId} {x:Operand} {b p:Nat} {v:Value} {i:TI} (hk:WO Tryd.prog n ops l K ((d,v)::env) h) (ho:o.op = .load t x:=by exact rfl) (hx:env.ev? x=some (.pointer (some ⟨b,p,none⟩)):=by exact rfl) (ht:tab.get? t=some i:=by exact rfl) (hag:i.kind.agg=false:=by exact rfl) (hv:cellAt h b p=some v:=by assumption) (hg:gd ops env o=some true:=by exact rfl) (hd:o.dst=some d:=by exact rfl) (hn:Nat.blt d n=true:=by exact rfl) :
  WO Tryd.prog n ops (o::l) K env h:=WO.val (ov_load tab_ok ho hx ht hag hv) hg hd hn hk
theorem zo3 {t:TypeId} {x:Operand} {b p:Nat} {c:List Value} {i:TI} (hk:WO Tryd.prog n ops l K ((d,.agg c.toArray)::env) h) (ho:o.op = .load t x:=by exact rfl) (hx:env.ev? x=some (.pointer (some ⟨b,p,none⟩)):=by exact rfl) (ht:tab.get? t=some i:=by exact rfl) (hag:i.kind.agg=true:=by exact rfl) (hv:Cells h b p c:=by first | assumption | exact Blk.cells (by assumption)) (hl:c.length=i.size:=by exact rfl) (hg:gd ops env o=some true:=by exact rfl) (hd:o.dst=some d:=by exact rfl) (hn:Nat.blt d n=true:=by exact rfl) :
  WO Tryd.prog n ops (o::l) K env h:=WO.val (ov_loads tab_ok ho hx ht hag hl hv) hg hd hn hk
theorem zo4 {t:TypeId} {x i:Operand} {b p len cap:Nat} {k:IntKind} {q:Int} {j:Nat} {e:TypeId} {sz by_ esz eby:Nat} {z ez:Value} {ek:TK} (hk:WO Tryd.prog n ops l K ((d,.pointer (some ⟨b,p+j*esz,none⟩))::env) h) (ho:o.op = .indexAddr t x i:=by exact rfl) (hx:env.ev? x=some (.slice (some ⟨b,p,none⟩) len cap):=by exact rfl) (hi:env.ev? i=some (.int k q):=by exact rfl) (ht:tab.get? t=some ⟨sz,by_,z,.slice e⟩:=by exact rfl) (he:tab.get? e=some ⟨esz,eby,ez,ek⟩:=by exact rfl) (hq:natOf q=some j:=by exact rfl) (hj:j<len:=by first | omega | exact ltl 0 rfl (by omega) | exact ltl 1 rfl (by omega) | exact ltl 2 rfl (by omega) | exact Nat.le_of_ble_eq_true rfl) (hg:gd ops env o=some true:=by exact rfl) (hd:o.dst=some d:=by exact rfl) (hn:Nat.blt d n=true:=by exact rfl) :
  WO Tryd.prog n ops (o::l) K env h:=WO.val (ov_indexAddr tab_ok ho hx hi ht he hq hj) hg hd hn hk
theorem zo5 {t:TypeId} {x i:Operand} {c:List UInt8} {k:IntKind} {q:Int} {j:Nat} {u:UInt8} {sz by_:Nat} {z:Value} (hk:WO Tryd.prog n ops l K ((d,.int .u8 (u.toNat:Int))::env) h) (ho:o.op = .index t x i:=by exact rfl) (hx:env.ev? x=some (.string (str c)):=by exact rfl) (hi:env.ev? i=some (.int k q):=by exact rfl) (ht:tab.get? t=some ⟨sz,by_,z,.string⟩:=by exact rfl) (hq:natOf q=some j:=by exact rfl) (hj:c[j]? = some u:=by assumption) (hg:gd ops env o=some true:=by exact rfl) (hd:o.dst=some d:=by exact rfl) (hn:Nat.blt d n=true:=by exact rfl) :
  WO Tryd.prog n ops (o::l) K env h:=WO.val (ov_index tab_ok ho hx hi ht hq hj) hg hd hn hk
theorem zo6 {t u:TypeId} {x y:Operand} {k:IntKind} {p q:Int} (hk:WO Tryd.prog n ops l K ((d,.int k (p+q))::env) h) (ho:o.op = .binOp .add t x y u:=by exact rfl) (hx:env.ev? x=some (.int k p):=by exact rfl) (hy:env.ev? y=some (.int k q):=by exact rfl) (hr:inK k (p+q):=by exact in_i64 (by omega) (by omega)) (hg:gd ops env o=some true:=by exact rfl) (hd:o.dst=some d:=by exact rfl) (hn:Nat.blt d n=true:=by exact rfl) :
  WO Tryd.prog n ops (o::l) K env h:=WO.val (ov_add ho hx hy hr) hg hd hn hk
theorem zo7 {t u:TypeId} {x y:Operand} {k:IntKind} {p q:Int} (hk:WO Tryd.prog n ops l K ((d,.int k (p-q))::env) h) (ho:o.op = .binOp .sub t x y u:=by exact rfl) (hx:env.ev? x=some (.int k p):=by exact rfl) (hy:env.ev? y=some (.int k q):=by exact rfl) (hr:inK k (p-q):=by exact in_i64 (by omega) (by omega)) (hg:gd ops env o=some true:=by exact rfl) (hd:o.dst=some d:=by exact rfl) (hn:Nat.blt d n=true:=by exact rfl) :
  WO Tryd.prog n ops (o::l) K env h:=WO.val (ov_sub ho hx hy hr) hg hd hn hk
theorem zo8 {t u:TypeId} {x y:Operand} {k:IntKind} {p q:Int} (hk:WO Tryd.prog n ops l K ((d,.int k (p*q))::env) h) (ho:o.op = .binOp .mul t x y u:=by exact rfl) (hx:env.ev? x=some (.int k p):=by exact rfl) (hy:env.ev? y=some (.int k q):=by exact rfl) (hr:inK k (p*q):=by exact in_i64 (by omega) (by omega)) (hg:gd ops env o=some true:=by exact rfl) (hd:o.dst=some d:=by exact rfl) (hn:Nat.blt d n=true:=by exact rfl) :
  WO Tryd.prog n ops (o::l) K env h:=WO.val (ov_mul ho hx hy hr) hg hd hn hk
theorem zo9 {s t:TypeId} {x:Operand} {k k':IntKind} {q:Int} {i:TI} {sz by_:Nat} {z:Value} (hk:WO Tryd.prog n ops l K ((d,.int k' q)::env) h) (ho:o.op = .convert s t x:=by exact rfl) (hx:env.ev? x=some (.int k q):=by exact rfl) (hs:tab.get? s=some i:=by exact rfl) (ht:tab.get? t=some ⟨sz,by_,z,.int k'⟩:=by exact rfl) (hr:inK k' q:=by exact in_i64 (by omega) (by omega)) (hg:gd ops env o=some true:=by exact rfl) (hd:o.dst=some d:=by exact rfl) (hn:Nat.blt d n=true:=by exact rfl) :
  WO Tryd.prog n ops (o::l) K env h:=WO.val (ov_conv tab_ok ho hx hs ht hr) hg hd hn hk
theorem zo10 {t u:TypeId} {x y:Operand} {p q:List UInt8} (hk:WO Tryd.prog n ops l K ((d,.string (str (p++q)))::env) h) (ho:o.op = .binOp .add t x y u:=by exact rfl) (hx:env.ev? x=some (.string (str p)):=by exact rfl) (hy:env.ev? y=some (.string (str q)):=by exact rfl) (hr:p.length+q.length≤9223372036854775807:=by first | omega | (simp<;>omega)) (hg:gd ops env o=some true:=by exact rfl) (hd:o.dst=some d:=by exact rfl) (hn:Nat.blt d n=true:=by exact rfl) :
  WO Tryd.prog n ops (o::l) K env h:=WO.val (ov_sadd ho hx hy hr) hg hd hn hk
theorem zo11 {t:TypeId} {x lo hi:Operand} {c:List UInt8} {k k':IntKind} {p q:Int} {i j:Nat} {sz by_:Nat} {z:Value} (hk:WO Tryd.prog n ops l K ((d,.string (str ((c.take j).drop i)))::env) h) (ho:o.op = .slice t x (some lo) (some hi) none:=by exact rfl) (hx:env.ev? x=some (.string (str c)):=by exact rfl) (hlo:env.ev? lo=some (.int k p):=by exact rfl) (hhi:env.ev? hi=some (.int k' q):=by exact rfl) (ht:tab.get? t=some ⟨sz,by_,z,.string⟩:=by exact rfl) (hp:natOf p=some i:=by exact rfl) (hq:natOf q=some j:=by exact rfl) (hij:i≤j:=by omega) (hj:j≤c.length:=by omega) (hg:gd ops env o=some true:=by exact rfl) (hd:o.dst=some d:=by exact rfl) (hn:Nat.blt d n=true:=by exact rfl) :
  WO Tryd.prog n ops (o::l) K env h:=WO.val (ov_sslice tab_ok ho hx hlo hhi ht hp hq hij hj) hg hd hn hk
theorem zo12 {t:TypeId} {x lo:Operand} {c:List UInt8} {k:IntKind} {p:Int} {i:Nat} {sz by_:Nat} {z:Value} (hk:WO Tryd.prog n ops l K ((d,.string (str (c.drop i)))::env) h) (ho:o.op = .slice t x (some lo) none none:=by exact rfl) (hx:env.ev? x=some (.string (str c)):=by exact rfl) (hlo:env.ev? lo=some (.int k p):=by exact rfl) (ht:tab.get? t=some ⟨sz,by_,z,.string⟩:=by exact rfl) (hp:natOf p=some i:=by exact rfl) (hi:i≤c.length:=by omega) (hg:gd ops env o=some true:=by exact rfl) (hd:o.dst=some d:=by exact rfl) (hn:Nat.blt d n=true:=by exact rfl) :
  WO Tryd.prog n ops (o::l) K env h:=WO.val (ov_sslice_lo tab_ok ho hx hlo ht hp hi) hg hd hn hk
theorem zo0 (hk:WO Tryd.prog n ops l K ((d,undef)::env) h) (hg:gd ops env o=some false:=by exact rfl) (hd:o.dst=some d:=by exact rfl) (hn:Nat.blt d n=true:=by exact rfl) :
  WO Tryd.prog n ops (o::l) K env h:=WO.pass hg hd hn hk
end
section
variable {n d:Nat} {ops:Array Oper} {l:List Oper} {K:Env→Prop} {o:Oper} {env:Env} {h:Heap}
theorem zs1 {v:Value} (hk:WS Tryd.prog n ops l K ((d,v)::env) h) (hv:pv tab env o.op=some v:=by exact rfl) (hg:gd ops env o=some true:=by exact rfl) (hd:o.dst=some d:=by exact rfl) (hn:Nat.blt d n=true:=by exact rfl) :
  WS Tryd.prog n ops (o::l) K env h:=WS.val (ov_pv tab_ok hv) hg hd hn hk
theorem zs2 {t:TypeId} {x:Operand} {b p:Nat} {v:Value} {i:TI} (hk:WS Tryd.prog n ops l K ((d,v)::env) h) (ho:o.op = .load t x:=by exact rfl) (hx:env.ev? x=some (.pointer (some ⟨b,p,none⟩)):=by exact rfl) (ht:tab.get? t=some i:=by exact rfl) (hag:i.kind.agg=false:=by exact rfl) (hv:cellAt h b p=some v:=by assumption) (hg:gd ops env o=some true:=by exact rfl) (hd:o.dst=some d:=by exact rfl) (hn:Nat.blt d n=true:=by exact rfl) :
  WS Tryd.prog n ops (o::l) K env h:=WS.val (ov_load tab_ok ho hx ht hag hv) hg hd hn hk
theorem zs3 {t:TypeId} {x:Operand} {b p:Nat} {c:List Value} {i:TI} (hk:WS Tryd.prog n ops l K ((d,.agg c.toArray)::env) h) (ho:o.op = .load t x:=by exact rfl) (hx:env.ev? x=some (.pointer (some ⟨b,p,none⟩)):=by exact rfl) (ht:tab.get? t=some i:=by exact rfl) (hag:i.kind.agg=true:=by exact rfl) (hv:Cells h b p c:=by first | assumption | exact Blk.cells (by assumption)) (hl:c.length=i.size:=by exact rfl) (hg:gd ops env o=some true:=by exact rfl) (hd:o.dst=some d:=by exact rfl) (hn:Nat.blt d n=true:=by exact rfl) :
  WS Tryd.prog n ops (o::l) K env h:=WS.val (ov_loads tab_ok ho hx ht hag hl hv) hg hd hn hk
theorem zs4 {t:TypeId} {x i:Operand} {b p len cap:Nat} {k:IntKind} {q:Int} {j:Nat} {e:TypeId} {sz by_ esz eby:Nat} {z ez:Value} {ek:TK} (hk:WS Tryd.prog n ops l K ((d,.pointer (some ⟨b,p+j*esz,none⟩))::env) h) (ho:o.op = .indexAddr t x i:=by exact rfl) (hx:env.ev? x=some (.slice (some ⟨b,p,none⟩) len cap):=by exact rfl) (hi:env.ev? i=some (.int k q):=by exact rfl) (ht:tab.get? t=some ⟨sz,by_,z,.slice e⟩:=by exact rfl) (he:tab.get? e=some ⟨esz,eby,ez,ek⟩:=by exact rfl) (hq:natOf q=some j:=by exact rfl) (hj:j<len:=by first | omega | exact ltl 0 rfl (by omega) | exact ltl 1 rfl (by omega) | exact ltl 2 rfl (by omega) | exact Nat.le_of_ble_eq_true rfl) (hg:gd ops env o=some true:=by exact rfl) (hd:o.dst=some d:=by exact rfl) (hn:Nat.blt d n=true:=by exact rfl) :
  WS Tryd.prog n ops (o::l) K env h:=WS.val (ov_indexAddr tab_ok ho hx hi ht he hq hj) hg hd hn hk
theorem zs5 {t:TypeId} {x i:Operand} {c:List UInt8} {k:IntKind} {q:Int} {j:Nat} {u:UInt8} {sz by_:Nat} {z:Value} (hk:WS Tryd.prog n ops l K ((d,.int .u8 (u.toNat:Int))::env) h) (ho:o.op = .index t x i:=by exact rfl) (hx:env.ev? x=some (.string (str c)):=by exact rfl) (hi:env.ev? i=some (.int k q):=by exact rfl) (ht:tab.get? t=some ⟨sz,by_,z,.string⟩:=by exact rfl) (hq:natOf q=some j:=by exact rfl) (hj:c[j]? = some u:=by assumption) (hg:gd ops env o=some true:=by exact rfl) (hd:o.dst=some d:=by exact rfl) (hn:Nat.blt d n=true:=by exact rfl) :
  WS Tryd.prog n ops (o::l) K env h:=WS.val (ov_index tab_ok ho hx hi ht hq hj) hg hd hn hk
theorem zs6 {t u:TypeId} {x y:Operand} {k:IntKind} {p q:Int} (hk:WS Tryd.prog n ops l K ((d,.int k (p+q))::env) h) (ho:o.op = .binOp .add t x y u:=by exact rfl) (hx:env.ev? x=some (.int k p):=by exact rfl) (hy:env.ev? y=some (.int k q):=by exact rfl) (hr:inK k (p+q):=by exact in_i64 (by omega) (by omega)) (hg:gd ops env o=some true:=by exact rfl) (hd:o.dst=some d:=by exact rfl) (hn:Nat.blt d n=true:=by exact rfl) :
  WS Tryd.prog n ops (o::l) K env h:=WS.val (ov_add ho hx hy hr) hg hd hn hk
theorem zs7 {t u:TypeId} {x y:Operand} {k:IntKind} {p q:Int} (hk:WS Tryd.prog n ops l K ((d,.int k (p-q))::env) h) (ho:o.op = .binOp .sub t x y u:=by exact rfl) (hx:env.ev? x=some (.int k p):=by exact rfl) (hy:env.ev? y=some (.int k q):=by exact rfl) (hr:inK k (p-q):=by exact in_i64 (by omega) (by omega)) (hg:gd ops env o=some true:=by exact rfl) (hd:o.dst=some d:=by exact rfl) (hn:Nat.blt d n=true:=by exact rfl) :
  WS Tryd.prog n ops (o::l) K env h:=WS.val (ov_sub ho hx hy hr) hg hd hn hk
theorem zs8 {t u:TypeId} {x y:Operand} {k:IntKind} {p q:Int} (hk:WS Tryd.prog n ops l K ((d,.int k (p*q))::env) h) (ho:o.op = .binOp .mul t x y u:=by exact rfl) (hx:env.ev? x=some (.int k p):=by exact rfl) (hy:env.ev? y=some (.int k q):=by exact rfl) (hr:inK k (p*q):=by exact in_i64 (by omega) (by omega)) (hg:gd ops env o=some true:=by exact rfl) (hd:o.dst=some d:=by exact rfl) (hn:Nat.blt d n=true:=by exact rfl) :
  WS Tryd.prog n ops (o::l) K env h:=WS.val (ov_mul ho hx hy hr) hg hd hn hk
theorem zs9 {s t:TypeId} {x:Operand} {k k':IntKind} {q:Int} {i:TI} {sz by_:Nat} {z:Value} (hk:WS Tryd.prog n ops l K ((d,.int k' q)::env) h) (ho:o.op = .convert s t x:=by exact rfl) (hx:env.ev? x=some (.int k q):=by exact rfl) (hs:tab.get? s=some i:=by exact rfl) (ht:tab.get? t=some ⟨sz,by_,z,.int k'⟩:=by exact rfl) (hr:inK k' q:=by exact in_i64 (by omega) (by omega)) (hg:gd ops env o=some true:=by exact rfl) (hd:o.dst=some d:=by exact rfl) (hn:Nat.blt d n=true:=by exact rfl) :
  WS Tryd.prog n ops (o::l) K env h:=WS.val (ov_conv tab_ok ho hx hs ht hr) hg hd hn hk
theorem zs10 {t u:TypeId} {x y:Operand} {p q:List UInt8} (hk:WS Tryd.prog n ops l K ((d,.string (str (p++q)))::env) h) (ho:o.op = .binOp .add t x y u:=by exact rfl) (hx:env.ev? x=some (.string (str p)):=by exact rfl) (hy:env.ev? y=some (.string (str q)):=by exact rfl) (hr:p.length+q.length≤9223372036854775807:=by first | omega | (simp<;>omega)) (hg:gd ops env o=some true:=by exact rfl) (hd:o.dst=some d:=by exact rfl) (hn:Nat.blt d n=true:=by exact rfl) :
  WS Tryd.prog n ops (o::l) K env h:=WS.val (ov_sadd ho hx hy hr) hg hd hn hk
theorem zs11 {t:TypeId} {x lo hi:Operand} {c:List UInt8} {k k':IntKind} {p q:Int} {i j:Nat} {sz by_:Nat} {z:Value} (hk:WS Tryd.prog n ops l K ((d,.string (str ((c.take j).drop i)))::env) h) (ho:o.op = .slice t x (some lo) (some hi) none:=by exact rfl) (hx:env.ev? x=some (.string (str c)):=by exact rfl) (hlo:env.ev? lo=some (.int k p):=by exact rfl) (hhi:env.ev? hi=some (.int k' q):=by exact rfl) (ht:tab.get? t=some ⟨sz,by_,z,.string⟩:=by exact rfl) (hp:natOf p=some i:=by exact rfl) (hq:natOf q=some j:=by exact rfl) (hij:i≤j:=by omega) (hj:j≤c.length:=by omega) (hg:gd ops env o=some true:=by exact rfl) (hd:o.dst=some d:=by exact rfl) (hn:Nat.blt d n=true:=by exact rfl) :
  WS Tryd.prog n ops (o::l) K env h:=WS.val (ov_sslice tab_ok ho hx hlo hhi ht hp hq hij hj) hg hd hn hk
theorem zs12 {t:TypeId} {x lo:Operand} {c:List UInt8} {k:IntKind} {p:Int} {i:Nat} {sz by_:Nat} {z:Value} (hk:WS Tryd.prog n ops l K ((d,.string (str (c.drop i)))::env) h) (ho:o.op = .slice t x (some lo) none none:=by exact rfl) (hx:env.ev? x=some (.string (str c)):=by exact rfl) (hlo:env.ev? lo=some (.int k p):=by exact rfl) (ht:tab.get? t=some ⟨sz,by_,z,.string⟩:=by exact rfl) (hp:natOf p=some i:=by exact rfl) (hi:i≤c.length:=by omega) (hg:gd ops env o=some true:=by exact rfl) (hd:o.dst=some d:=by exact rfl) (hn:Nat.blt d n=true:=by exact rfl) :
  WS Tryd.prog n ops (o::l) K env h:=WS.val (ov_sslice_lo tab_ok ho hx hlo ht hp hi) hg hd hn hk
theorem zs0 (hk:WS Tryd.prog n ops l K ((d,undef)::env) h) (hg:gd ops env o=some false:=by exact rfl) (hd:o.dst=some d:=by exact rfl) (hn:Nat.blt d n=true:=by exact rfl) :
  WS Tryd.prog n ops (o::l) K env h:=WS.pass hg hd hn hk
end
structure Hid (G:Prop):Prop where
 out:G
theorem zgo {G' G:Prop} (hk:G') (hs:Hid G'→G:=by (intro hk';repeat (first | refine Runs.ctl rfl ?_ | refine Runs.region ?_ | with_reducible refine WO.nil ?_ | refine zo1 ?_ | refine zo2 ?_ | refine zo3 ?_ | refine zo4 ?_ | refine zo5 ?_ | refine zo6 ?_ | refine zo7 ?_ | refine zo8 ?_ | refine zo9 ?_ | refine zo10 ?_ | refine zo11 ?_ | refine zo12 ?_ | refine zo0 ?_));exact hk'.out):G:=hs ⟨hk⟩
theorem zws {G' G:Prop} (hk:G') (hs:Hid G'→G:=by (intro hk';repeat (first | with_reducible refine WS.nil ?_ | refine zs1 ?_ | refine zs2 ?_ | refine zs3 ?_ | refine zs4 ?_ | refine zs5 ?_ | refine zs6 ?_ | refine zs7 ?_ | refine zs8 ?_ | refine zs9 ?_ | refine zs10 ?_ | refine zs11 ?_ | refine zs12 ?_ | refine zs0 ?_));exact hk'.out):G:=hs ⟨hk⟩
section
variable {n d fuel:Nat} {ops:Array Oper} {SH:Heap→Prop} {F:Nat→Bool} {listed:Array Bool} {K:Env→Heap→Prop} {o:Oper} {env:Env} {h:Heap}
theorem zp (i:Nat) {v:Value} (hS:SH h) (hk:WF Tryd.prog n ops SH F fuel (listed.setIfInBounds i true) K ((d,v)::env) h) (hi:ops[i]? = some o:=by exact rfl) (hv:pv tab env o.op=some v:=by exact rfl) (hg:gd ops env o=some true:=by exact rfl) (hd:o.dst=some d:=by exact rfl) (hn:Nat.blt d n=true:=by exact rfl) (hc:(Region.noSelect ops&&Region.free .any ops listed i&&(Region.ready .any ops listed).contains i&&waitsB ops F i)=true:=by kernel_rfl) :
  WF Tryd.prog n ops SH F (fuel+1) listed K env h:=WF.take i hi (fun _ _=>ov_pv tab_ok hv) hS hg hd hn hc hk
theorem zq (i:Nat) (hS:SH h) (hk:WF Tryd.prog n ops SH F fuel (listed.setIfInBounds i true) K ((d,undef)::env) h) (hi:ops[i]? = some o:=by exact rfl) (hg:gd ops env o=some false:=by exact rfl) (hd:o.dst=some d:=by exact rfl) (hn:Nat.blt d n=true:=by exact rfl) (hc:(Region.noSelect ops&&Region.free .any ops listed i&&(Region.ready .any ops listed).contains i&&waitsB ops F i)=true:=by kernel_rfl) :
  WF Tryd.prog n ops SH F (fuel+1) listed K env h:=WF.take_pass i hi hS hg hd hn hc hk
theorem zl (i:Nat) {t:TypeId} {x:Operand} {b p:Nat} {v:Value} {ti:TI} (hv:∀ h',SH h'→cellAt h' b p=some v) (hS:SH h) (hk:WF Tryd.prog n ops SH F fuel (listed.setIfInBounds i true) K ((d,v)::env) h) (hi:ops[i]? = some o:=by exact rfl) (ho:o.op = .load t x:=by exact rfl) (hx:env.ev? x=some (.pointer (some ⟨b,p,none⟩)):=by exact rfl) (ht:tab.get? t=some ti:=by exact rfl) (hag:ti.kind.agg=false:=by exact rfl) (hg:gd ops env o=some true:=by exact rfl) (hd:o.dst=some d:=by exact rfl) (hn:Nat.blt d n=true:=by exact rfl) (hc:(Region.noSelect ops&&Region.free .any ops listed i&&(Region.ready .any ops listed).contains i&&waitsB ops F i)=true:=by kernel_rfl) :
  WF Tryd.prog n ops SH F (fuel+1) listed K env h:=WF.take i hi (fun h' hs=>ov_load tab_ok ho hx ht hag (hv h' hs)) hS hg hd hn hc hk
theorem zL (i:Nat) {t:TypeId} {x:Operand} {b p:Nat} {c:List Value} {ti:TI} (hv:∀ h',SH h'→Cells h' b p c) (hS:SH h) (hk:WF Tryd.prog n ops SH F fuel (listed.setIfInBounds i true) K ((d,.agg c.toArray)::env) h) (hi:ops[i]? = some o:=by exact rfl) (ho:o.op = .load t x:=by exact rfl) (hx:env.ev? x=some (.pointer (some ⟨b,p,none⟩)):=by exact rfl) (ht:tab.get? t=some ti:=by exact rfl) (hag:ti.kind.agg=true:=by exact rfl) (hl:c.length=ti.size:=by exact rfl) (hg:gd ops env o=some true:=by exact rfl) (hd:o.dst=some d:=by exact rfl) (hn:Nat.blt d n=true:=by exact rfl) (hc:(Region.noSelect ops&&Region.free .any ops listed i&&(Region.ready .any ops listed).contains i&&waitsB ops F i)=true:=by kernel_rfl) :
  WF Tryd.prog n ops SH F (fuel+1) listed K env h:=WF.take i hi (fun h' hs=>ov_loads tab_ok ho hx ht hag hl (hv h' hs)) hS hg hd hn hc hk
theorem zi (i:Nat) {t e:TypeId} {x y:Operand} {b p len cap j sz by_ esz eby:Nat} {k:IntKind} {q:Int} {z ez:Value} {ek:TK} (hj:j<len) (hS:SH h) (hk:WF Tryd.prog n ops SH F fuel (listed.setIfInBounds i true) K ((d,.pointer (some ⟨b,p+j*esz,none⟩))::env) h) (hi:ops[i]? = some o:=by exact rfl) (ho:o.op = .indexAddr t x y:=by exact rfl) (hx:env.ev? x=some (.slice (some ⟨b,p,none⟩) len cap):=by exact rfl) (hy:env.ev? y=some (.int k q):=by exact rfl) (ht:tab.get? t=some ⟨sz,by_,z,.slice e⟩:=by exact rfl) (he:tab.get? e=some ⟨esz,eby,ez,ek⟩:=by exact rfl) (hq:natOf q=some j:=by exact rfl) (hg:gd ops env o=some true:=by exact rfl) (hd:o.dst=some d:=by exact rfl) (hn:Nat.blt d n=true:=by exact rfl) (hc:(Region.noSelect ops&&Region.free .any ops listed i&&(Region.ready .any ops listed).contains i&&waitsB ops F i)=true:=by kernel_rfl) :
  WF Tryd.prog n ops SH F (fuel+1) listed K env h:=WF.take i hi (fun _ _=>ov_indexAddr tab_ok ho hx hy ht he hq hj) hS hg hd hn hc hk
theorem zx (i:Nat) {v:Value} (hS:SH h) (hk:WF Tryd.prog n ops SH F fuel (listed.setIfInBounds i true) K ((d,v)::env) h) (hr:Region.ready .any ops listed=[i]:=by kernel_rfl) (hi:ops[i]? = some o:=by exact rfl) (hv:pv tab env o.op=some v:=by exact rfl) (hg:gd ops env o=some true:=by exact rfl) (hd:o.dst=some d:=by exact rfl) (hn:Nat.blt d n=true:=by exact rfl) :
  WF Tryd.prog n ops SH F (fuel+1) listed K env h:=WF.ex i hr hi hg hd hn ((ov_pv tab_ok hv).ex ⟨.inr hS,hk⟩)
end
section
variable {n d d₂ N esz eby sz by_:Nat} {ops:Array Oper} {l:List Oper} {K:Env→Heap→Prop} {o o₂:Oper} {env:Env} {h:Heap} {t e:TypeId} {x s:Operand} {u v z ez:Value} {vs xs zs c':List Value} {ek tk:TK}
theorem zh (h1:One vs) (hown:Own h e esz v N xs)
  (hk:∀ v' h',Own h' e esz v' (N+1) (xs++vs)→Fr (fun k=>v.ownBlock=some k) h h'→Moved h v v'→WO Tryd.prog n ops l K ((d₂,v')::(d,.slice (some ⟨h.size,0,none⟩) 1 1)::env) h')
  (ho:o.op = .buildSlice t 1 #[(0,x)]:=by exact rfl) (hg:gd ops env o=some true:=by exact rfl) (hd:o.dst=some d:=by exact rfl) (hn:Nat.blt d n=true:=by exact rfl)
  (ho₂:o₂.op = .call { callee:=.builtin .append,args:=#[s,.tmp d],argTypes:=#[t,t] }:=by exact rfl) (hg₂:o₂.guard=none:=by exact rfl) (hd₂:o₂.dst=some d₂:=by exact rfl) (hn₂:Nat.blt d₂ n=true:=by exact rfl)
  (ht:tab.get? t=some ⟨sz,by_,z,.slice e⟩:=by exact rfl) (he:tab.get? e=some ⟨esz,eby,ez,ek⟩:=by exact rfl) (hpos:Nat.blt 0 esz=true:=by exact rfl) (hle:Nat.ble esz 16777216=true:=by exact rfl) (hz:ez.cells.size=esz:=by exact rfl)
  (hx:env.ev? x=some u:=by exact rfl) (hvs:oneList u=some vs:=by exact rfl) (hl:Nat.beq vs.length esz=true:=by exact rfl) (hs:env.ev? s=some v:=by exact rfl) (hsd:s ≠ .tmp d:=by simp) (hb:(N+1)*(eby+1)≤140737488355328:=by omega) :
  WO Tryd.prog n ops (o::o₂::l) K env h:=WO.push tab_ok ho hg hd hn ho₂ hg₂ hd₂ hn₂ ht he hpos hle hz hx hvs hl hs hsd h1 hown hb hk
theorem zv {y:Operand} (h1:One vs) (hk:∀ h1,Blk h1 h.size c' t→Ext h h1→h1.size=h.size+1→WO Tryd.prog n ops l K ((d,.pointer (some ⟨h.size,0,none⟩))::env) h1)
  (ho:o.op = .alloc t:=by exact rfl) (hg:gd ops env o=some true:=by exact rfl) (hd:o.dst=some d:=by exact rfl) (hn:Nat.blt d n=true:=by exact rfl) (ht:tab.get? t=some ⟨sz,by_,z,tk⟩:=by exact rfl) (hz:oneList z=some zs:=by exact rfl)
  (ho₂:o₂.op = .store t (.tmp d) y:=by exact rfl) (hg₂:o₂.guard=none:=by exact rfl) (hd₂:o₂.dst=none:=by exact rfl) (hy:Env.ev? ((d,.pointer (some ⟨h.size,0,none⟩))::env) y=some v:=by exact rfl) (hv:oneList v=some vs:=by exact rfl) (hl:Nat.beq vs.length sz=true:=by exact rfl) (hs:setO zs 0 vs=some c':=by exact rfl) :
  WO Tryd.prog n ops (o::o₂::l) K env h:=WO.var tab_ok ho hg hd hn ht hz ho₂ hg₂ hd₂ hy hv hl h1 hs hk
end
end Go.Proofs.YtlaffgagmncgjabDoor
