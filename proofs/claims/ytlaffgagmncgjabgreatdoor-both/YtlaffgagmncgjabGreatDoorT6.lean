import Derived.Test.YtlaffgagmncgjabGreatDoorT5
namespace Go.Proofs.YtlaffgagmncgjabGreatDoor
open Tryz Go Go.Pat Go.Proofs
theorem numAcc_bound:∀ (l:List UInt8) (a m k:Nat),numAcc a l=some m→a<10 ^ k→m<10 ^ (k+l.length):=by
 intro l
 induction l with
 | nil=>intro a m k h ha;simp [numAcc] at h;subst h;simpa using ha
 | cons x l ih =>
  intro a m k h ha
  simp only [numAcc] at h
  split at h
  ·cases h
  ·rename_i hx
   have:=ih _ m (k+1) h (numAcc_lt ha (by omega) (by omega))
   rw [List.length_cons,show k+(l.length+1)=k+1+l.length by omega];exact this
theorem numberS_lt {w:List UInt8} {n:Nat} (h:numberS w=some n):n<10000:=by
 unfold numberS at h
 split at h
 ·cases h
 ·rename_i hw
  have h1:=numAcc_bound w 0 n 0 h (by simp)
  have h2:10 ^ (0+w.length)≤10 ^ 4:=Nat.pow_le_pow_right (by omega) (by omega)
  omega
def nameS (w:List UInt8):Option Nat:=match numberS w with
 | some n=>if n=0 then none else some n
 | none=>none
def parseS (s:List UInt8):Option PatchD :=
 if 1400<s.length then none else
 match splitL 10 s with
 | l0::l1::rest =>
  if rest.length<2∨rest.getLast? ≠ some []∨31<rest.length then none else
  match splitL 32 l0 with
  | [h0,h1] =>
   match splitL 32 l1 with
   | n0::ns =>
    if h0≠[112,97,116,99,104]∨n0≠[110,101,101,100,115]∨20<ns.length then none else
    match nameS h1 with
    | none=>none
    | some id=>match allSome nameS ns with
     | none=>none
     | some needs=>match allSome changeS rest.dropLast with
      | none=>none
      | some cs=>some ⟨id,needs,cs⟩
   | []=>none
  | _=>none
 | _=>none
def decF:Nat→Nat→List UInt8
 | 0,n=>[UInt8.ofNat (48+n)]
 | f+1,n=>if n<10 then [UInt8.ofNat (48+n)] else decF f (n / 10)++[UInt8.ofNat (48+n % 10)]
theorem decF_same:∀ (f g n:Nat),n≤f→n≤g→decF f n=decF g n
 | 0,0,_,_,_=>rfl
 | 0,g+1,n,h,_=>by
  obtain rfl:n=0:=by omega
  rfl
 | f+1,0,n,_,h=>by
  obtain rfl:n=0:=by omega
  rfl
 | f+1,g+1,n,h1,h2=>by
  by_cases h:n<10
  ·rw [decF,decF,if_pos h,if_pos h]
  ·rw [decF,decF,if_neg h,if_neg h,decF_same f g (n / 10) (by omega) (by omega)]
def decS (n:Nat):List UInt8:=decF n n
theorem decS_small {n:Nat} (h:n<10):decS n=[UInt8.ofNat (48+n)]:=by
 cases n with
 | zero=>rfl
 | succ m=>rw [decS,decF,if_pos h]
theorem decS_big {n:Nat} (h:¬ n<10):decS n=decS (n / 10)++[UInt8.ofNat (48+n % 10)]:=by
 cases n with
 | zero=>omega
 | succ m=>rw [decS,decF,if_neg h,decS,decF_same m ((m+1) / 10) ((m+1) / 10) (by omega) (by omega)]
theorem decS_len:∀ (k n:Nat),n<10 ^ (k+1)→(decS n).length≤k+1:=by
 intro k
 induction k with
 | zero=>intro n h;rw [decS_small (by simpa using h)];simp
 | succ k ih =>
  intro n h
  by_cases h10:n<10
  ·rw [decS_small h10];simp
  ·rw [decS_big h10]
   have:=ih (n / 10) (by rw [Nat.pow_succ] at h;omega)
   simp;omega
def refS (r:RefD):List UInt8:=if 0<r.p then decS r.p++[46]++decS r.i else if r.i=0 then [94] else [36]
def RefD.ok (r:RefD):Prop:=r.p<10000∧r.i<10000∧(r.p=0→r.i<2)
structure ChangeD.ok (c:ChangeD):Prop where
 up:RefD.ok c.up
 down:RefD.ok c.down
 text:c.text.length≤12
structure PatchD.ok (p:PatchD):Prop where
 id:p.id<10000
 needs:∀ n∈p.needs,n<10000
 changes:∀ c∈p.changes,ChangeD.ok c
 len:p.changes.length≤30
 nlen:p.needs.length≤20
def chS (c:ChangeD):List UInt8 :=
 if c.kind=1 then [97,100,100,32]++refS c.up++[32]++refS c.down++[32]++c.text++[10]
 else if c.kind=2 then [100,101,108,32]++refS c.up++[10]
 else [116,105,101,32]++refS c.up++[32]++refS c.down++[10]
def headS (p:PatchD):List UInt8:=[112,97,116,99,104,32]++decS p.id++[10,110,101,101,100,115]
def needsS (l:List Nat):List UInt8:=l.flatMap fun n=>[32]++decS n
def textS (p:PatchD):List UInt8:=headS p++needsS p.needs++[10]++p.changes.flatMap chS
theorem refS_len {r:RefD} (h:RefD.ok r):(refS r).length≤13:=by
 have h1:=decS_len 5 r.p (by have:=h.1;omega)
 have h2:=decS_len 5 r.i (by have:=h.2.1;omega)
 unfold refS
 split
 ·simp;omega
 ·split<;>simp
theorem chS_len {c:ChangeD} (h:ChangeD.ok c):(chS c).length≤60:=by
 have h1:=refS_len h.up
 have h2:=refS_len h.down
 have h3:=h.text
 unfold chS
 split
 ·simp;omega
 ·split
  ·simp;omega
  ·simp;omega
end Go.Proofs.YtlaffgagmncgjabGreatDoor
