import Derived.Test.YtlaffgagmncgjabDoorT19
namespace Go.Proofs.YtlaffgagmncgjabDoor
open Go Go.Pat Go.Proofs
def saidL (all:List LineD) (l:List LineD) (m:List (List Bool)):List (List Bool):=l.foldl (fun m x=>sayS all x.ref x.down (sayS all x.up x.ref m)) m
def saidC (all:List LineD) (l:List ChangeD) (m:List (List Bool)):List (List Bool):=l.foldl (fun m c=>if c.kind=3 then sayS all c.up c.down m else m) m
def saidP (all:List LineD) (l:List PatchD) (m:List (List Bool)):List (List Bool):=l.foldl (fun m p=>saidC all p.changes m) m
def zeros (n:Nat):List (List Bool):=List.replicate n (List.replicate n false)
def thrS (m:List (List Bool)) (k i j:Nat):List (List Bool):=setB m i j (getB m i j||getB m i k&&getB m k j)
def thrJ (k i:Nat) (l:List Nat) (m:List (List Bool)):List (List Bool):=l.foldl (fun m j=>thrS m k i j) m
def thrI (n k:Nat) (l:List Nat) (m:List (List Bool)):List (List Bool):=l.foldl (fun m i=>thrJ k i (List.range n) m) m
def thrK (n:Nat) (l:List Nat) (m:List (List Bool)):List (List Bool):=l.foldl (fun m k=>thrI n k (List.range n) m) m
def onS (ps:List PatchD):List (List Bool) :=
 thrK (linesS ps).length (List.range (linesS ps).length) (saidP (linesS ps) ps (saidL (linesS ps) (linesS ps) (zeros (linesS ps).length)))
theorem bools_replicate (n:Nat):bools (List.replicate n false)=List.replicate n (.bool false):=by simp [bools]
def isLive (ps:List PatchD) (all:List LineD) (k:Nat):Bool:=match all[k]? with
 | some l=>decide ((killersS l.ref ps).length=0)
 | none=>false
def liveTo (ps:List PatchD) (all:List LineD) (i:Nat):List Nat:=(List.range i).filter (isLive ps all)
def alOf (all:List LineD) (live:List Nat):List LineD:=live.filterMap fun k=>all[k]?
def ldS (on:List (List Bool)) (live:List Nat) (to:List Nat):List (List Bool):=to.map fun i=>live.map fun j=>getB on i j
def RowsIn (lo:Nat) (h:Heap) (dv:Value) (rvs:List Value) (rows:List (List Bool)):Prop :=
 rvs.length=rows.length∧∀ (x:Nat) (rv:Value) (row:List Bool),rvs[x]? = some rv→rows[x]? = some row→Rd h 1 rv row.length (bools row)∧∀ k,rv.ownBlock=some k→lo≤k∧k<h.size∧dv.ownBlock≠some k
theorem RowsIn.fr {lo:Nat} {h h':Heap} {dv dv':Value} {rvs:List Value} {rows:List (List Bool)} {S:Nat→Prop} (x:RowsIn lo h dv rvs rows) (f:Fr S h h') (hS:∀ k,S k→dv.ownBlock=some k∨k<lo) (hd:Moved h dv dv'):RowsIn lo h' dv' rvs rows:=by
 refine ⟨x.1,fun i rv row hi hr=>?_⟩
 obtain ⟨e1,e2⟩:=x.2 i rv row hi hr
 refine ⟨e1.fr f fun k hk hs=>?_,fun k hk=>?_⟩
 ·obtain ⟨a1,a2,a3⟩:=e2 k hk
  rcases hS k hs with e | e
  ·exact a3 e
  ·omega
 ·obtain ⟨a1,a2,a3⟩:=e2 k hk
  have:=f.size
  refine ⟨a1,by omega,fun e=>?_⟩
  rcases hd k e with e' | e'
  ·exact a3 e'
  ·omega
theorem Moved.refl (h:Heap) (v:Value):Moved h v v:=fun _ hk=>.inl hk
theorem RowsIn.snoc {lo:Nat} {h:Heap} {dv rv:Value} {rvs:List Value} {rows:List (List Bool)} {row:List Bool} (x:RowsIn lo h dv rvs rows) (hr:Rd h 1 rv row.length (bools row)) (hk:∀ k,rv.ownBlock=some k→lo≤k∧k<h.size∧dv.ownBlock≠some k):RowsIn lo h dv (rvs++[rv]) (rows++[row]):=by
 refine ⟨by simp [x.1],fun i rv' row' hi hr'=>?_⟩
 rcases Nat.lt_or_ge i rvs.length with e | e
 ·rw [List.getElem?_append_left e] at hi
  rw [List.getElem?_append_left (by rw [← x.1];exact e)] at hr'
  exact x.2 i rv' row' hi hr'
 ·have hi':i<rvs.length+1:=by have:=(List.getElem?_eq_some_iff.1 hi).1;simpa using this
  have hie:i=rvs.length:=by omega
  rw [List.getElem?_append_right e,hie] at hi
  rw [List.getElem?_append_right (by rw [← x.1];exact e),hie,x.1] at hr'
  simp at hi hr'
  subst hi hr'
  exact ⟨hr,hk⟩
def intsI (l:List Int):List Value:=l.map fun x=>.int .i64 x
structure MG (h:Heap) (b sb:Nat) (al:List LineD) (ld:List (List Bool)) (fx:List Bool) (bl:List Int):Prop where
 out:∃ alv ldv fxv blv,Cells h b 0 [.pointer (some ⟨sb,0,none⟩),alv,ldv,fxv,blv]∧Rd h 7 alv al.length (linesC al)∧Mat h ldv ld∧Rd h 1 fxv fx.length (bools fx)∧Rd h 1 blv bl.length (intsI bl)
 sq:Square al.length ld
 fxl:fx.length=al.length
 bll:bl.length=al.length
def fxS (n:Nat) (ld:List (List Bool)):List Bool:=(List.range n).map (settledS n ld)
def blS (n:Nat) (ld:List (List Bool)) (fx:List Bool):List Int:=(List.range n).map (blockS n ld fx)
def liveS (ps:List PatchD):List Nat:=liveTo ps (linesS ps) (linesS ps).length
def alS (ps:List PatchD):List LineD:=alOf (linesS ps) (liveS ps)
def leadS (ps:List PatchD):List (List Bool):=ldS (onS ps) (liveS ps) (liveS ps)
def fixS (ps:List PatchD):List Bool:=fxS (alS ps).length (leadS ps)
def blkS (ps:List PatchD):List Int:=blS (alS ps).length (leadS ps) (fixS ps)
structure DX where
 (a:Nat) (dv:Value) (rvs:List Value)
structure LX where
 (i:Nat) (lv av:Value)
structure OX where
 (k:Nat) (rbs:List Nat)
end Go.Proofs.YtlaffgagmncgjabDoor
