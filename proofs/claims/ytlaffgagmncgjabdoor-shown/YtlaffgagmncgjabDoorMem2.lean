import Derived.Test.YtlaffgagmncgjabDoorPv
namespace Go.Pat
open Go
def New (h h':Heap) (k:Nat):Prop:=h.size≤k∧k<h'.size
theorem New.up {h h1 h2:Heap} {S:Nat→Prop} {k:Nat} (x:New h h1 k) (f:Fr S h1 h2):New h h2 k:=⟨x.1,Nat.lt_of_lt_of_le x.2 f.size⟩
theorem New.dn {h h1 h2:Heap} {S:Nat→Prop} {k:Nat} (x:New h1 h2 k) (f:Fr S h h1):New h h2 k:=⟨Nat.le_trans f.size x.1,x.2⟩
def ptrs (bs:List Nat):List Value:=bs.map fun (b:Nat)=>Value.pointer (some ⟨b,0,none⟩)
theorem ptrs_get {l:List Nat} {i x:Nat} (h:l[i]? = some x):(ptrs l)[i]? = some (.pointer (some ⟨x,0,none⟩)):=by simp [ptrs,h]
theorem one_ptrs (b:Nat):One [.pointer (some ⟨b,0,none⟩)]:=one_ptr _
def PAs (F:Nat→Prop) (h:Heap) (bs:List Nat) (ps:List PatchD):Prop:=bs.length=ps.length∧∀ (i b:Nat) (p:PatchD),bs[i]? = some b→ps[i]? = some p→PA F h b p
theorem PAs.fr {F S:Nat→Prop} {h h':Heap} {bs:List Nat} {ps:List PatchD} (x:PAs F h bs ps) (f:Fr S h h') (hs:∀ k,F k→¬ S k):PAs F h' bs ps:=⟨x.1,fun i b p h1 h2=>(x.2 i b p h1 h2).fr f hs⟩
theorem PAs.ext {F:Nat→Prop} {h h':Heap} {bs:List Nat} {ps:List PatchD} (x:PAs F h bs ps) (f:Ext h h'):PAs F h' bs ps:=x.fr f (by simp)
theorem PAs.mono {F F':Nat→Prop} {h:Heap} {bs:List Nat} {ps:List PatchD} (x:PAs F h bs ps) (hs:∀ k,F k→F' k):PAs F' h bs ps:=⟨x.1,fun i b p h1 h2=>(x.2 i b p h1 h2).mono hs⟩
theorem PAs.nil (F:Nat→Prop) (h:Heap):PAs F h [] []:=⟨rfl,fun i b p h1 _=>by simp at h1⟩
theorem PAs.snoc {F:Nat→Prop} {h:Heap} {bs:List Nat} {ps:List PatchD} {b:Nat} {p:PatchD} (x:PAs F h bs ps) (y:PA F h b p):PAs F h (bs++[b]) (ps++[p]):=by
 refine ⟨by simp [x.1],fun i b' p' h1 h2=>?_⟩
 rcases Nat.lt_or_ge i bs.length with e | e
 ·rw [List.getElem?_append_left e] at h1
  rw [List.getElem?_append_left (by rw [← x.1];exact e)] at h2
  exact x.2 i b' p' h1 h2
 ·rw [List.getElem?_append_right e] at h1
  rw [List.getElem?_append_right (by rw [← x.1];exact e)] at h2
  have hi:i-bs.length=0:=by
   rcases Nat.eq_zero_or_pos (i-bs.length) with q | q
   ·exact q
   ·rw [List.getElem?_eq_none (by simp;omega)] at h1;cases h1
  have hi':i-ps.length=0:=by rw [← x.1];exact hi
  rw [hi] at h1
  rw [hi'] at h2
  simp at h1 h2
  subst h1 h2
  exact y
def SA (F:Nat→Prop) (h:Heap) (b:Nat) (bs:List Nat) (ps:List PatchD):Prop:=∃ lv,Cells h b 0 [lv]∧Rd h 1 lv bs.length (ptrs bs)∧PAs F h bs ps∧F b∧∀ k,lv.ownBlock=some k→F k
theorem SA.fr {F S:Nat→Prop} {h h':Heap} {b:Nat} {bs:List Nat} {ps:List PatchD} (x:SA F h b bs ps) (f:Fr S h h') (hs:∀ k,F k→¬ S k):SA F h' b bs ps:=by
 obtain ⟨lv,h1,h2,h3,h4,h5⟩:=x
 exact ⟨lv,f.cells (hs b h4) h1,h2.fr f (fun k hk=>hs k (h5 k hk)),h3.fr f hs,h4,h5⟩
theorem SA.ext {F:Nat→Prop} {h h':Heap} {b:Nat} {bs:List Nat} {ps:List PatchD} (x:SA F h b bs ps) (f:Ext h h'):SA F h' b bs ps:=x.fr f (by simp)
theorem SA.mono {F F':Nat→Prop} {h:Heap} {b:Nat} {bs:List Nat} {ps:List PatchD} (x:SA F h b bs ps) (hs:∀ k,F k→F' k):SA F' h b bs ps:=by
 obtain ⟨lv,h1,h2,h3,h4,h5⟩:=x
 exact ⟨lv,h1,h2,h3.mono hs,hs b h4,fun k hk=>hs k (h5 k hk)⟩
structure LineD where
 (ref up down:RefD) (text:List UInt8)
def LineD.cells (l:LineD):List Value:=[.int .i64 (l.ref.p:Int),.int .i64 (l.ref.i:Int),.int .i64 (l.up.p:Int),.int .i64 (l.up.i:Int),.int .i64 (l.down.p:Int),.int .i64 (l.down.i:Int),.string (str l.text)]
theorem LineD.one (c:LineD):One c.cells:=by intro u hu;simp [LineD.cells] at hu;rcases hu with rfl | rfl | rfl | rfl | rfl | rfl | rfl<;>rfl
def linesC (l:List LineD):List Value:=l.flatMap LineD.cells
theorem linesC_append (l m:List LineD):linesC (l++m)=linesC l++linesC m:=by simp [linesC]
theorem length_linesC (l:List LineD):(linesC l).length=l.length*7:=by
 induction l with
 | nil=>rfl
 | cons x l ih=>simp only [linesC,List.flatMap_cons,List.length_append] at ih ⊢;rw [ih];simp [LineD.cells];omega
theorem linesC_get {h:Heap}:∀ {l:List LineD} {b p:Nat},Cells h b p (linesC l)→∀ {i:Nat} {c:LineD},l[i]? = some c→Cells h b (p+i*7) c.cells:=by
 intro l
 induction l with
 | nil=>intro b p _ i c hi;simp at hi
 | cons x l ih =>
  intro b p hc i c hi
  have hx:Cells h b p x.cells∧Cells h b (p+7) (linesC l):=by
   constructor
   ·intro j v hj
    exact hc j v (by simp only [linesC,List.flatMap_cons];rw [List.getElem?_append_left];exact hj;have:=(List.getElem?_eq_some_iff.1 hj).1;exact this)
   ·intro j v hj
    have:=hc (7+j) v (by simp only [linesC,List.flatMap_cons];rw [List.getElem?_append_right (by simp [LineD.cells]),show 7+j-x.cells.length=j by simp [LineD.cells]];exact hj)
    rw [Nat.add_assoc];exact this
  cases i with
  | zero=>simp at hi;subst hi;simpa using hx.1
  | succ i =>
   have:=ih hx.2 (i:=i) (c:=c) (by simpa using hi)
   rw [Nat.add_assoc,show 7+i*7=(i+1)*7 by omega] at this
   exact this
def linesUp (id:Nat) (l:List ChangeD):List LineD:=(l.filter fun c=>decide (c.kind=1)).zipIdx.map fun x=>⟨⟨id,x.2⟩,x.1.up,x.1.down,x.1.text⟩
theorem length_linesUp (id:Nat) (l:List ChangeD):(linesUp id l).length=ownN l:=by simp [linesUp,ownN]
theorem linesUp_snoc (id:Nat) (l:List ChangeD) (c:ChangeD):linesUp id (l++[c])=linesUp id l++(if c.kind=1 then [⟨⟨id,ownN l⟩,c.up,c.down,c.text⟩] else []):=by
 unfold linesUp ownN
 rw [List.filter_append]
 by_cases h:c.kind=1
 ·simp [h,List.zipIdx_append]
 ·simp [h]
def linesOfS (p:PatchD):List LineD:=linesUp p.id p.changes
def linesS (ps:List PatchD):List LineD:=ps.flatMap linesOfS
end Go.Pat
