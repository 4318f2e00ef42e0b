import Derived.Test.YtlaffgagmncgjabDoorT5
namespace Go.Proofs.YtlaffgagmncgjabDoor
open Go Go.Pat Go.Proofs
theorem sum_mem_le {l:List Nat} {x:Nat} (h:x∈l):x≤l.sum:=by
 induction l with
 | nil=>cases h
 | cons a l ih =>
  rw [List.sum_cons]
  rcases List.mem_cons.1 h with rfl | h
  ·omega
  ·have:=ih h;omega
theorem splitL_length (c:UInt8) (l:List UInt8):(splitL c l).length≤l.length+1:=by
 induction l with
 | nil=>simp [splitL]
 | cons x r ih =>
  simp only [splitL]
  split
  ·simp;omega
  ·split
   ·rename_i p ps h;rw [h] at ih;simp at ih ⊢;omega
   ·simp
theorem numAcc_bound:∀ (l:List UInt8) (a m k:Nat),numAcc a l=some m→a<10 ^ k→m<10 ^ (k+l.length):=by
 intro l
 induction l with
 | nil=>intro a m k h ha;simp [numAcc] at h;subst h;simpa using ha
 | cons x l ih =>
  intro a m k h ha
  simp only [numAcc] at h
  split at h
  ·cases h
  ·rename_i hx
   have:=ih _ m (k+1) h (numAcc_lt ha (by omega) (by omega))
   rw [List.length_cons,show k+(l.length+1)=k+1+l.length by omega];exact this
theorem numberS_lt {w:List UInt8} {n:Nat} (h:numberS w=some n):n<10000:=by
 unfold numberS at h
 split at h
 ·cases h
 ·rename_i hw
  have h1:=numAcc_bound w 0 n 0 h (by simp)
  have h2:10 ^ (0+w.length)≤10 ^ 4:=Nat.pow_le_pow_right (by omega) (by omega)
  omega
def nameS (w:List UInt8):Option Nat:=match numberS w with
 | some n=>if n=0 then none else some n
 | none=>none
def parseS (s:List UInt8):Option PatchD :=
 if 1400<s.length then none else
 match splitL 10 s with
 | l0::l1::rest =>
  if rest.length<2∨rest.getLast? ≠ some []∨31<rest.length then none else
  match splitL 32 l0 with
  | [h0,h1] =>
   match splitL 32 l1 with
   | n0::ns =>
    if h0≠[112,97,116,99,104]∨n0≠[110,101,101,100,115]∨20<ns.length then none else
    match nameS h1 with
    | none=>none
    | some id=>match allSome nameS ns with
     | none=>none
     | some needs=>match allSome changeS rest.dropLast with
      | none=>none
      | some cs=>some ⟨id,needs,cs⟩
   | []=>none
  | _=>none
 | _=>none
structure RX where
 (i:Nat) (nv:Value) (needs:List Nat)
structure CX where
 (i:Nat) (cv:Value) (cs:List ChangeD)
def readPost (s:List UInt8) (h:Heap) (v:Value) (h':Heap):Prop :=
 Ext h h'∧match parseS s with
  | none=>v = .tuple #[.pointer none,.int .i64 1]
  | some p=>if formedS p then ∃ b,v = .tuple #[.pointer (some ⟨b,0,none⟩),.int .i64 0]∧PA (New h h') h' b p else v = .tuple #[.pointer none,.int .i64 2]
def bad1 (s:List UInt8) (L:List (List UInt8)):Prop:=1400<s.length∨L.length<4∨L.getLast? ≠ some []∨33<L.length
def bad2 (H N:List (List UInt8)):Prop:=H.length≠2∨H[0]? ≠ some [112,97,116,99,104]∨N[0]? ≠ some [110,101,101,100,115]∨21<N.length
theorem parse_bad1 {s:List UInt8} (h:bad1 s (splitL 10 s)):parseS s=none:=by
 unfold parseS
 by_cases h0:1400<s.length
 ·rw [if_pos h0]
 ·rw [if_neg h0]
  rcases h with h | h
  ·omega
  ·split
   ·rename_i l0 l1 rest e
    rw [e] at h
    rw [if_pos]
    simp only [List.length_cons] at h
    cases rest with
    | nil=>left;simp
    | cons a r =>
     rw [List.getLast?_cons_cons,List.getLast?_cons_cons] at h
     rcases h with h | h | h
     ·left;simp at h ⊢;omega
     ·right;left;exact h
     ·right;right;simp at h ⊢;omega
   ·rfl
theorem parse_bad2 {s l0 l1:List UInt8} {rest:List (List UInt8)} (hL:splitL 10 s=l0::l1::rest) (h:bad2 (splitL 32 l0) (splitL 32 l1)):parseS s=none:=by
 unfold parseS
 split
 ·rfl
 ·rw [hL]
  simp only
  split
  ·rfl
  ·split
   ·rename_i h0 h1 e
    split
    ·rename_i n0 ns e'
     rw [e,e'] at h
     rw [if_pos]
     rcases h with h | h | h | h
     ·simp at h
     ·left;simpa using h
     ·right;left;simpa using h
     ·right;right;simp at h;omega
    ·rfl
   ·rfl
theorem parse_good {s l0 l1:List UInt8} {rest:List (List UInt8)} {h1:List UInt8} {ns:List (List UInt8)} (hs:¬ bad1 s (splitL 10 s)) (hL:splitL 10 s=l0::l1::rest) (hH:splitL 32 l0=[[112,97,116,99,104],h1]) (hN:splitL 32 l1=[110,101,101,100,115]::ns) (hn:ns.length≤20) :
  parseS s=match nameS h1 with
    | none=>none
    | some id=>match allSome nameS ns with
     | none=>none
     | some needs=>match allSome changeS rest.dropLast with
      | none=>none
      | some cs=>some ⟨id,needs,cs⟩:=by
 unfold parseS
 have h0:¬ 1400<s.length:=fun e=>hs (.inl e)
 rw [if_neg h0,hL]
 simp only
 have hr:¬ (rest.length<2∨rest.getLast? ≠ some []∨31<rest.length):=fun e=>hs (by
  right
  rw [hL]
  simp only [List.length_cons]
  rcases e with e | e | e
  ·left;omega
  ·right;left
   cases rest with
   | nil=>exact absurd (show ([]:List (List UInt8)).length<2 by simp) (fun e'=>hs (.inr (.inl (by rw [hL];simp))))
   | cons a r=>rw [List.getLast?_cons_cons,List.getLast?_cons_cons];exact e
  ·right;right;omega)
 rw [if_neg hr,hH]
 simp only
 rw [hN]
 simp only
 rw [if_neg (by simp;omega)]
def decF:Nat→Nat→List UInt8
 | 0,n=>[UInt8.ofNat (48+n)]
 | f+1,n=>if n<10 then [UInt8.ofNat (48+n)] else decF f (n / 10)++[UInt8.ofNat (48+n % 10)]
theorem decF_same:∀ (f g n:Nat),n≤f→n≤g→decF f n=decF g n
 | 0,0,_,_,_=>rfl
 | 0,g+1,n,h,_=>by
  obtain rfl:n=0:=by omega
  rfl
 | f+1,0,n,_,h=>by
  obtain rfl:n=0:=by omega
  rfl
 | f+1,g+1,n,h1,h2=>by
  by_cases h:n<10
  ·rw [decF,decF,if_pos h,if_pos h]
  ·rw [decF,decF,if_neg h,if_neg h,decF_same f g (n / 10) (by omega) (by omega)]
def decS (n:Nat):List UInt8:=decF n n
theorem decS_small {n:Nat} (h:n<10):decS n=[UInt8.ofNat (48+n)]:=by
 cases n with
 | zero=>rfl
 | succ m=>rw [decS,decF,if_pos h]
theorem decS_big {n:Nat} (h:¬ n<10):decS n=decS (n / 10)++[UInt8.ofNat (48+n % 10)]:=by
 cases n with
 | zero=>omega
 | succ m=>rw [decS,decF,if_neg h,decS,decF_same m ((m+1) / 10) ((m+1) / 10) (by omega) (by omega)]
theorem decS_len:∀ (k n:Nat),n<10 ^ (k+1)→(decS n).length≤k+1:=by
 intro k
 induction k with
 | zero=>intro n h;rw [decS_small (by simpa using h)];simp
 | succ k ih =>
  intro n h
  by_cases h10:n<10
  ·rw [decS_small h10];simp
  ·rw [decS_big h10]
   have:=ih (n / 10) (by rw [Nat.pow_succ] at h;omega)
   simp;omega
def refS (r:RefD):List UInt8:=if 0<r.p then decS r.p++[46]++decS r.i else if r.i=0 then [94] else [36]
def RefD.ok (r:RefD):Prop:=r.p<10000∧r.i<10000∧(r.p=0→r.i<2)
structure ChangeD.ok (c:ChangeD):Prop where
 up:RefD.ok c.up
 down:RefD.ok c.down
 text:c.text.length≤12
structure PatchD.ok (p:PatchD):Prop where
 id:p.id<10000
 needs:∀ n∈p.needs,n<10000
 changes:∀ c∈p.changes,ChangeD.ok c
 len:p.changes.length≤30
 nlen:p.needs.length≤20
def chS (c:ChangeD):List UInt8 :=
 if c.kind=1 then [97,100,100,32]++refS c.up++[32]++refS c.down++[32]++c.text++[10]
 else if c.kind=2 then [100,101,108,32]++refS c.up++[10]
 else [116,105,101,32]++refS c.up++[32]++refS c.down++[10]
def headS (p:PatchD):List UInt8:=[112,97,116,99,104,32]++decS p.id++[10,110,101,101,100,115]
def needsS (l:List Nat):List UInt8:=l.flatMap fun n=>[32]++decS n
def textS (p:PatchD):List UInt8:=headS p++needsS p.needs++[10]++p.changes.flatMap chS
theorem refS_len {r:RefD} (h:RefD.ok r):(refS r).length≤13:=by
 have h1:=decS_len 5 r.p (by have:=h.1;omega)
 have h2:=decS_len 5 r.i (by have:=h.2.1;omega)
 unfold refS
 split
 ·simp;omega
 ·split<;>simp
theorem chS_len {c:ChangeD} (h:ChangeD.ok c):(chS c).length≤60:=by
 have h1:=refS_len h.up
 have h2:=refS_len h.down
 have h3:=h.text
 unfold chS
 split
 ·simp;omega
 ·split
  ·simp;omega
  ·simp;omega
end Go.Proofs.YtlaffgagmncgjabDoor
