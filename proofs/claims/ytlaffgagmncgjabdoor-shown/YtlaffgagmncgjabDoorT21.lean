import Derived.Test.YtlaffgagmncgjabDoorT20
namespace Go.Pat
open Go
section
variable {P:Program} {n:Nat} {env:Env} {h:Heap} {o:Oper} {T:Tab}
theorem ov_indexAddrA {t:TypeId} {x i:Operand} {b p len:Nat} {k:IntKind} {q:Int} {j:Nat} {e:TypeId} {sz by_ esz eby:Nat} {z ez:Value} {ek:TK} (hT:T.ok P) (ho:o.op = .indexAddr t x i)
  (hx:env.ev? x=some (.pointer (some ⟨b,p,none⟩))) (hi:env.ev? i=some (.int k q)) (ht:T.get? t=some ⟨sz,by_,z,.array len e⟩) (he:T.get? e=some ⟨esz,eby,ez,ek⟩) (hq:natOf q=some j) (hj:j<len) :
  OpVal P n env o h (.pointer (some ⟨b,p+j*esz,none⟩)):=fun w a _ ha=>by
 replace hq:=natOf_eq hq
 have hu:P.underlying t=some (.array len e):=(Tab.fits hT ht).2
 subst hq
 simp [execOp,ho,ha.ev hx,ha.ev hi,Instr.indexAt,Instr.sureAddr,asIntOf,und (Tab.fits hT ht) hu,run_sizeOf (Tab.fits hT he),hj,add_plain]
end
end Go.Pat
namespace Go.Proofs.YtlaffgagmncgjabDoor
open Go Go.Pat Go.Proofs
structure Key where
 (a b c d:Int)
def Key.cells (k:Key):List Value:=[.int .i64 k.a,.int .i64 k.b,.int .i64 k.c,.int .i64 k.d]
def Key.get (k:Key):Nat→Int
 | 0=>k.a
 | 1=>k.b
 | 2=>k.c
 | _=>k.d
theorem Key.cell (k:Key) {h:Heap} {b o:Nat} (hc:Cells h b o k.cells) {i:Nat} (hi:i<4):cellAt h b (o+i*1)=some (.int .i64 (k.get i)):=by
 rw [Nat.mul_one]
 apply hc i
 rcases i with _ | _ | _ | _ | i
 ·rfl
 ·rfl
 ·rfl
 ·rfl
 ·omega
def lessFrom (x y:Key):Nat→Nat→Bool
 | 0,_=>false
 | f+1,i=>if x.get i≠y.get i then decide (x.get i<y.get i) else lessFrom x y f (i+1)
def lessS (x y:Key):Bool:=lessFrom x y 4 0
end Go.Proofs.YtlaffgagmncgjabDoor
namespace Go.Proofs.YtlaffgagmncgjabDoor
open Go Go.Pat Go.Proofs
def beside (l:LineD):Nat→RefD
 | 0=>l.up
 | _=>l.down
def Bad (ps:List PatchD) (l:LineD) (d:Nat):Prop:=¬ Reach ps d l.ref.p∧¬ Reach ps l.ref.p d
def Orphan (ps:List PatchD) (l:LineD):Prop:=∃ k,k<2∧∃ d∈killersS (beside l k) ps,Bad ps l d
theorem killersS_ids {r:RefD} {ps:List PatchD} {d:Nat} (h:d∈killersS r ps):d∈ps.map PatchD.id:=by
 unfold killersS kills at h
 obtain ⟨p,hp,hd⟩:=List.mem_flatMap.1 h
 obtain ⟨_,_,e⟩:=List.mem_map.1 hd
 exact List.mem_map.2 ⟨p,hp,e⟩
end Go.Proofs.YtlaffgagmncgjabDoor
