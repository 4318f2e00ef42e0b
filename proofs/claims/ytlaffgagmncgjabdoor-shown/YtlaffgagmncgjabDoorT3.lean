import Derived.Test.YtlaffgagmncgjabDoorT1
namespace Go.Proofs.YtlaffgagmncgjabDoor
open Go Go.Pat Go.Proofs
def textOk (t:List UInt8):Bool:=decide (t.length≤12)&&t.all fun b=>decide (32≤b.toNat)&&decide (b.toNat≤126)
def changeS (s:List UInt8):Option ChangeD :=
 match splitL 32 s with
 | w0::ws =>
  if w0=[97,100,100]∧3≤ws.length then
   match ws with
   | w1::w2::_=>match lineS w1 [94],lineS w2 [36] with
    | some up,some down=>if textOk (s.drop (w0.length+w1.length+w2.length+3)) then some ⟨1,up,down,s.drop (w0.length+w1.length+w2.length+3)⟩ else none
    | _,_=>none
   | _=>none
  else if w0=[100,101,108]∧ws.length=1 then
   match ws with
   | [w1]=>match lineS w1 [] with
    | some up=>some ⟨2,up,⟨0,0⟩,[]⟩
    | none=>none
   | _=>none
  else if w0=[116,105,101]∧ws.length=2 then
   match ws with
   | [w1,w2]=>match lineS w1 [],lineS w2 [] with
    | some up,some down=>some ⟨3,up,down,[]⟩
    | _,_=>none
   | _=>none
  else none
 | []=>none
def okI (t:List UInt8) (i:Nat):Bool:=decide (t.length≤12)&&(t.take i).all fun b=>decide (32≤b.toNat)&&decide (b.toNat≤126)
theorem okI_succ (t:List UInt8) (i:Nat) (h:i<t.length):okI t (i+1)=(okI t i&&(decide (32≤t[i].toNat)&&decide (t[i].toNat≤126))):=by
 unfold okI
 rw [List.take_succ_eq_append_getElem h]
 simp only [List.all_append,List.all_cons,List.all_nil,Bool.and_true,Bool.and_assoc]
theorem okI_zero (t:List UInt8):decide ((t.length:Int)≤12)=okI t 0:=by
 unfold okI
 simp only [List.take_zero,List.all_nil,Bool.and_true]
 exact decide_eq_decide.2 (by omega)
def namesS (p:PatchD) (r:RefD) (k:Nat):Bool:=(decide (r.p=0)||(decide (r.p=p.id)&&decide (r.i<ownN (p.changes.take k))))||p.needs.any fun n=>decide (n=r.p)
end Go.Proofs.YtlaffgagmncgjabDoor
