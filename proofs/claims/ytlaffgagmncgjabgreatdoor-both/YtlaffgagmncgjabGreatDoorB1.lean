import Derived.Test.YtlaffgagmncgjabGreatDoorK8
import Derived.Test.YtlaffgagmncgjabGreatDoorK6
import Derived.Test.YtlaffgagmncgjabGreatDoorK9
namespace Go.Proofs.YtlaffgagmncgjabGreatDoor
open Tryz Go Go.Pat Go.Proofs
def bT (k:Nat):List UInt8:=[98,48+UInt8.ofNat k]
def bL (n:Nat):List (List UInt8):=(List.range n).map bT
def upR (k:Nat):RefD:=if k=0 then ⟨0,0⟩ else ⟨1,k-1⟩
def pN (n:Nat):PatchD:=⟨1,[],(List.range n).map fun k=>⟨1,upR k,⟨0,1⟩,bT k⟩⟩
def wB (n i:Nat) (del:Bool) (x:UInt8):List (List UInt8):=if del=true then (bL n).take i++(bL n).drop (i+1) else (bL n).take i++[x]::(bL n).drop i
def pX (id i:Nat) (del:Bool) (x:UInt8):PatchD:=⟨id,[1],[if del=true then ⟨2,⟨1,i⟩,⟨0,0⟩,[]⟩ else ⟨1,upR i,⟨1,i⟩,[x]⟩]⟩
def psB (n i j:Nat) (a b:Bool):List PatchD:=[pN n,pX 2 i a 120,pX 3 j b 121]
theorem eight {n:Nat} (h:2≤n∧n≤9):n=2∨n=3∨n=4∨n=5∨n=6∨n=7∨n=8∨n=9:=by omega
def eqC (a b:ChangeD):Bool:=decide (a.kind=b.kind)&&(a.up.eqb b.up&&(a.down.eqb b.down&&decide (a.text=b.text)))
def eqL:List ChangeD→List ChangeD→Bool
 | [],[]=>true
 | a::l,b::m=>eqC a b&&eqL l m
 | _,_=>false
def eqP (a b:PatchD):Bool:=decide (a.id=b.id)&&(decide (a.needs=b.needs)&&eqL a.changes b.changes)
theorem eqC_eq {a b:ChangeD} (h:eqC a b=true):a=b:=by
 unfold eqC at h
 simp only [Bool.and_eq_true,decide_eq_true_eq] at h
 obtain ⟨h1,h2,h3,h4⟩:=h
 have h2:=eqb_iff.1 h2
 have h3:=eqb_iff.1 h3
 cases a;cases b;simp_all
theorem eqL_eq:∀ {l m:List ChangeD},eqL l m=true→l=m
 | [],[],_=>rfl
 | a::l,b::m,h=>by
  unfold eqL at h
  rw [Bool.and_eq_true] at h
  rw [eqC_eq h.1,eqL_eq h.2]
 | [],b::m,h=>by cases h
 | a::l,[],h=>by cases h
theorem eqP_eq {a b:PatchD} (h:eqP a b=true):a=b:=by
 unfold eqP at h
 simp only [Bool.and_eq_true,decide_eq_true_eq] at h
 obtain ⟨h1,h2,h3⟩:=h
 have h3:=eqL_eq h3
 cases a;cases b;simp_all
def chk (n id:Nat) (x:UInt8) (g:Nat→Bool):Bool:=(List.range n).all fun i=>eqP (recP [pN n] (xRC [pN n] (fun k=>if k<n then false else g k) (List.range n) id (wB n i true x))) (pX id i true x)&&eqP (recP [pN n] (xRC [pN n] (fun k=>if k<n then false else g k) (List.range n) id (wB n i false x))) (pX id i false x)
theorem recN2 (g:Nat→Bool):recP [] (xRC [] g [] 1 (bL 2))=pN 2:=by kernel_rfl
theorem ordN2 (sd:Nat→Int):ordX [pN 2] sd=List.range 2:=by kernel_rfl
theorem chkX2 (g:Nat→Bool):chk 2 2 120 g=true:=by kernel_rfl
theorem chkY2 (g:Nat→Bool):chk 2 3 121 g=true:=by kernel_rfl
theorem recN3 (g:Nat→Bool):recP [] (xRC [] g [] 1 (bL 3))=pN 3:=by kernel_rfl
theorem ordN3 (sd:Nat→Int):ordX [pN 3] sd=List.range 3:=by kernel_rfl
theorem chkX3 (g:Nat→Bool):chk 3 2 120 g=true:=by kernel_rfl
theorem chkY3 (g:Nat→Bool):chk 3 3 121 g=true:=by kernel_rfl
theorem recN4 (g:Nat→Bool):recP [] (xRC [] g [] 1 (bL 4))=pN 4:=by kernel_rfl
theorem ordN4 (sd:Nat→Int):ordX [pN 4] sd=List.range 4:=by kernel_rfl
theorem chkX4 (g:Nat→Bool):chk 4 2 120 g=true:=by kernel_rfl
theorem chkY4 (g:Nat→Bool):chk 4 3 121 g=true:=by kernel_rfl
theorem recN5 (g:Nat→Bool):recP [] (xRC [] g [] 1 (bL 5))=pN 5:=by kernel_rfl
theorem ordN5 (sd:Nat→Int):ordX [pN 5] sd=List.range 5:=by kernel_rfl
theorem chkX5 (g:Nat→Bool):chk 5 2 120 g=true:=by kernel_rfl
theorem chkY5 (g:Nat→Bool):chk 5 3 121 g=true:=by kernel_rfl
theorem recN6 (g:Nat→Bool):recP [] (xRC [] g [] 1 (bL 6))=pN 6:=by kernel_rfl
theorem ordN6 (sd:Nat→Int):ordX [pN 6] sd=List.range 6:=by kernel_rfl
theorem chkX6 (g:Nat→Bool):chk 6 2 120 g=true:=by kernel_rfl
theorem chkY6 (g:Nat→Bool):chk 6 3 121 g=true:=by kernel_rfl
theorem recN7 (g:Nat→Bool):recP [] (xRC [] g [] 1 (bL 7))=pN 7:=by kernel_rfl
theorem ordN7 (sd:Nat→Int):ordX [pN 7] sd=List.range 7:=by kernel_rfl
theorem chkX7 (g:Nat→Bool):chk 7 2 120 g=true:=by kernel_rfl
theorem chkY7 (g:Nat→Bool):chk 7 3 121 g=true:=by kernel_rfl
theorem recN8 (g:Nat→Bool):recP [] (xRC [] g [] 1 (bL 8))=pN 8:=by kernel_rfl
theorem ordN8 (sd:Nat→Int):ordX [pN 8] sd=List.range 8:=by kernel_rfl
theorem chkX8 (g:Nat→Bool):chk 8 2 120 g=true:=by kernel_rfl
theorem chkY8 (g:Nat→Bool):chk 8 3 121 g=true:=by kernel_rfl
theorem recN9 (g:Nat→Bool):recP [] (xRC [] g [] 1 (bL 9))=pN 9:=by kernel_rfl
theorem ordN9 (sd:Nat→Int):ordX [pN 9] sd=List.range 9:=by kernel_rfl
theorem chkX9 (g:Nat→Bool):chk 9 2 120 g=true:=by kernel_rfl
theorem chkY9 (g:Nat→Bool):chk 9 3 121 g=true:=by kernel_rfl
theorem rec_N {n:Nat} (hn:2≤n∧n≤9) (g:Nat→Bool):recP [] (xRC [] g [] 1 (bL n))=pN n:=by
 rcases eight hn with rfl | rfl | rfl | rfl | rfl | rfl | rfl | rfl
 ·exact recN2 g
 ·exact recN3 g
 ·exact recN4 g
 ·exact recN5 g
 ·exact recN6 g
 ·exact recN7 g
 ·exact recN8 g
 ·exact recN9 g
theorem ord_N {n:Nat} (hn:2≤n∧n≤9) (sd:Nat→Int):ordX [pN n] sd=List.range n:=by
 rcases eight hn with rfl | rfl | rfl | rfl | rfl | rfl | rfl | rfl
 ·exact ordN2 sd
 ·exact ordN3 sd
 ·exact ordN4 sd
 ·exact ordN5 sd
 ·exact ordN6 sd
 ·exact ordN7 sd
 ·exact ordN8 sd
 ·exact ordN9 sd
theorem chk_X {n:Nat} (hn:2≤n∧n≤9) (g:Nat→Bool):chk n 2 120 g=true:=by
 rcases eight hn with rfl | rfl | rfl | rfl | rfl | rfl | rfl | rfl
 ·exact chkX2 g
 ·exact chkX3 g
 ·exact chkX4 g
 ·exact chkX5 g
 ·exact chkX6 g
 ·exact chkX7 g
 ·exact chkX8 g
 ·exact chkX9 g
theorem chk_Y {n:Nat} (hn:2≤n∧n≤9) (g:Nat→Bool):chk n 3 121 g=true:=by
 rcases eight hn with rfl | rfl | rfl | rfl | rfl | rfl | rfl | rfl
 ·exact chkY2 g
 ·exact chkY3 g
 ·exact chkY4 g
 ·exact chkY5 g
 ·exact chkY6 g
 ·exact chkY7 g
 ·exact chkY8 g
 ·exact chkY9 g
theorem rec_of {ps:List PatchD} {id e:Nat} {W:List (List UInt8)} {t:List UInt8} {P:PatchD} (hx:RecX ps (id:Int) W e t) (h1:1≤id∧id≤9999) (hW:fileOk W=true) (hid:∀ p∈ps,p.id≠id)
  (H:∀ sd orx,NumX ps sd orx→recP ps (xRC ps orx (ordX ps sd) id W)=P) (hl:0<P.changes.length∧P.changes.length≤30):e=0∧t=textS P:=by
 rcases hx with ⟨h,_,_⟩ | ⟨_,id',e1,⟨h,_,_⟩ | ⟨_,sd,orx,hn,hr⟩⟩
 ·exact absurd ⟨by omega,by omega,hW⟩ h
 ·obtain rfl:id'=id:=by omega
  obtain ⟨p,hp,hq⟩:=List.mem_map.1 h
  exact absurd hq (hid p hp)
 ·obtain rfl:id'=id:=by omega
  have h:=H sd orx hn
  have hc:(xRC ps orx (ordX ps sd) id' W).ch=P.changes:=by rw [← h];rfl
  have ht:textS ⟨(xRC ps orx (ordX ps sd) id' W).id,ndS ps (xRC ps orx (ordX ps sd) id' W).ch,(xRC ps orx (ordX ps sd) id' W).ch⟩=textS P:=congrArg textS h
  unfold recS at hr
  rw [hc,if_neg (by omega),if_neg (by omega),← hc,ht] at hr
  simp only [Prod.mk.injEq] at hr
  exact hr
end Go.Proofs.YtlaffgagmncgjabGreatDoor
namespace Go.Proofs.YtlaffgagmncgjabGreatDoor
open Tryz Go Go.Pat Go.Proofs
def lnN (k:Nat):LineD:=⟨⟨1,k⟩,upR k,⟨0,1⟩,bT k⟩
def lnP (id i:Nat) (x:UInt8):LineD:=⟨⟨id,0⟩,upR i,⟨1,i⟩,[x]⟩
theorem lines_N {n:Nat} (hn:2≤n∧n≤9):linesOfS (pN n)=(List.range n).map lnN:=by
 rcases eight hn with rfl | rfl | rfl | rfl | rfl | rfl | rfl | rfl<;>rfl
theorem lines_X (id i:Nat) (del:Bool) (x:UInt8):linesOfS (pX id i del x)=if del=true then [] else [lnP id i x]:=by cases del<;>rfl
def pos (i j:Nat) (r:RefD):Nat:=if r.p=1 then 2*r.i+1 else if r.p=2 then 2*i else 2*j
section
variable {n i j:Nat} {a b:Bool}
theorem lines_B (hn:2≤n∧n≤9):linesS (psB n i j a b)=(List.range n).map lnN++((if a=true then [] else [lnP 2 i 120])++(if b=true then [] else [lnP 3 j 121])):=by
 unfold linesS psB
 simp only [List.flatMap_cons,List.flatMap_nil,List.append_nil,lines_N hn,lines_X]
theorem nd_B:((psB n i j a b).map PatchD.id).Nodup:=by
 have:(psB n i j a b).map PatchD.id=[1,2,3]:=rfl
 rw [this];decide
theorem mem_B (hn:2≤n∧n≤9) {l:LineD}:l∈linesS (psB n i j a b)↔(∃ k,k<n∧l=lnN k)∨(a=false∧l=lnP 2 i 120)∨(b=false∧l=lnP 3 j 121):=by
 rw [lines_B hn,List.mem_append,List.mem_append,List.mem_map]
 refine or_congr ⟨fun ⟨k,hk,e⟩=>⟨k,List.mem_range.1 hk,e.symm⟩,fun ⟨k,hk,e⟩=>⟨k,List.mem_range.2 hk,e.symm⟩⟩ (or_congr ?_ ?_)
 ·cases a<;>simp
 ·cases b<;>simp
theorem isLn_B (hn:2≤n∧n≤9) {r:RefD}:IsLn (psB n i j a b) r↔(r.p=1∧r.i<n)∨(a=false∧r=⟨2,0⟩)∨(b=false∧r=⟨3,0⟩):=by
 unfold IsLn
 constructor
 ·rintro ⟨l,hl,rfl⟩
  rcases (mem_B hn).1 hl with ⟨k,hk,rfl⟩ | ⟨h,rfl⟩ | ⟨h,rfl⟩
  ·exact .inl ⟨rfl,hk⟩
  ·exact .inr (.inl ⟨h,rfl⟩)
  ·exact .inr (.inr ⟨h,rfl⟩)
 ·rintro (⟨h1,h2⟩ | ⟨h1,h2⟩ | ⟨h1,h2⟩)
  ·exact ⟨lnN r.i,(mem_B hn).2 (.inl ⟨_,h2,rfl⟩),by cases r;simp_all [lnN]⟩
  ·exact ⟨_,(mem_B hn).2 (.inr (.inl ⟨h1,rfl⟩)),by rw [h2];rfl⟩
  ·exact ⟨_,(mem_B hn).2 (.inr (.inr ⟨h1,rfl⟩)),by rw [h2];rfl⟩
theorem up_B (hn:2≤n∧n≤9) {k:Nat} (h:IsLn (psB n i j a b) (upR k)):pos i j (upR k)+1=2*k:=by
 unfold upR at h ⊢
 by_cases hk:k=0
 ·rw [if_pos hk] at h
  rcases (isLn_B hn).1 h with ⟨h,_⟩ | ⟨_,h⟩ | ⟨_,h⟩<;>simp at h
 ·rw [if_neg hk];simp [pos];omega
theorem down_B (hn:2≤n∧n≤9) (h:IsLn (psB n i j a b) ⟨0,1⟩):False:=by
 rcases (isLn_B hn).1 h with ⟨h,_⟩ | ⟨_,h⟩ | ⟨_,h⟩<;>simp at h
theorem said_B (hn:2≤n∧n≤9) {r s:RefD} (h:Said (psB n i j a b) r s) (hr:IsLn (psB n i j a b) r) (hs:IsLn (psB n i j a b) s):pos i j r<pos i j s:=by
 rcases h with ⟨x,hx,hh⟩ | ⟨p,hp,c,hc,h3,_⟩
 ·rcases (mem_B hn).1 hx with ⟨k,hk,rfl⟩ | ⟨h,rfl⟩ | ⟨h,rfl⟩<;>rcases hh with ⟨rfl,rfl⟩ | ⟨rfl,rfl⟩
  ·have:=up_B hn hr
   have e:pos i j (lnN k).ref=2*k+1:=by simp [lnN,pos]
   have e':pos i j (lnN k).up+1=2*k:=this
   omega
  ·exact (down_B hn hs).elim
  ·have e':pos i j (lnP 2 i 120).up+1=2*i:=up_B hn hr
   have e:pos i j (lnP 2 i 120).ref=2*i:=by simp [lnP,pos]
   omega
  ·simp [lnP,pos]
  ·have e':pos i j (lnP 3 j 121).up+1=2*j:=up_B hn hr
   have e:pos i j (lnP 3 j 121).ref=2*j:=by simp [lnP,pos]
   omega
  ·simp [lnP,pos]
 ·exfalso
  simp only [psB,List.mem_cons,List.not_mem_nil,or_false] at hp
  rcases hp with rfl | rfl | rfl
  ·simp only [pN,List.mem_map] at hc
   obtain ⟨k,_,rfl⟩:=hc
   simp at h3
  ·cases a<;>simp [pX] at hc<;>subst hc<;>simp at h3
  ·cases b<;>simp [pX] at hc<;>subst hc<;>simp at h3
theorem lead_lt (hn:2≤n∧n≤9) {r s:RefD} (h:LeadR (psB n i j a b) r s):pos i j r<pos i j s :=
 LeadR.least nd_B (R:=fun r s=>pos i j r<pos i j s) (fun _ _ _ _ _ _ h1 h2=>Nat.lt_trans h1 h2) (fun _ _ ha hb hs=>said_B hn hs ha hb) h
theorem lead_chain (hn:2≤n∧n≤9) {k m:Nat} (h:k<m) (hm:m<n):LeadR (psB n i j a b) ⟨1,k⟩ ⟨1,m⟩:=by
 induction m with
 | zero=>omega
 | succ m ih =>
  have hs:LeadR (psB n i j a b) ⟨1,m⟩ ⟨1,m+1⟩:=LeadR.said nd_B ((isLn_B hn).2 (.inl ⟨rfl,by dsimp only;omega⟩)) ((isLn_B hn).2 (.inl ⟨rfl,hm⟩)) (.inl ⟨lnN (m+1),(mem_B hn).2 (.inl ⟨_,hm,rfl⟩),.inl ⟨by simp [lnN,upR],rfl⟩⟩)
  by_cases e:k=m
  ·subst e;exact hs
  ·exact (ih (by omega) (by omega)).trans nd_B hs
theorem lead_in (hn:2≤n∧n≤9) {id k:Nat} {x:UInt8} (hk:k<n) (hx:lnP id k x∈linesS (psB n i j a b)) {m:Nat} (hm:m<k):LeadR (psB n i j a b) ⟨1,m⟩ ⟨id,0⟩:=by
 have hs:LeadR (psB n i j a b) ⟨1,k-1⟩ ⟨id,0⟩:=LeadR.said nd_B ((isLn_B hn).2 (.inl ⟨rfl,by dsimp only;omega⟩)) ⟨_,hx,rfl⟩ (.inl ⟨_,hx,.inl ⟨by simp [lnP,upR];omega,rfl⟩⟩)
 by_cases e:m=k-1
 ·subst e;exact hs
 ·exact (lead_chain hn (by omega) (by omega)).trans nd_B hs
theorem lead_out (hn:2≤n∧n≤9) {id k:Nat} {x:UInt8} (hk:k<n) (hx:lnP id k x∈linesS (psB n i j a b)) {m:Nat} (hm:k≤m) (hmn:m<n):LeadR (psB n i j a b) ⟨id,0⟩ ⟨1,m⟩:=by
 have hs:LeadR (psB n i j a b) ⟨id,0⟩ ⟨1,k⟩:=LeadR.said nd_B ⟨_,hx,rfl⟩ ((isLn_B hn).2 (.inl ⟨rfl,hk⟩)) (.inl ⟨_,hx,.inr ⟨rfl,rfl⟩⟩)
 by_cases e:k=m
 ·subst e;exact hs
 ·exact hs.trans nd_B (lead_chain hn (by omega) hmn)
theorem lead_of (hn:2≤n∧n≤9) (hi:i<n) (hj:j<n) {r s:RefD} (hr:IsLn (psB n i j a b) r) (hs:IsLn (psB n i j a b) s) (h:pos i j r<pos i j s):LeadR (psB n i j a b) r s:=by
 have hx:a=false→lnP 2 i 120∈linesS (psB n i j a b):=fun e=>(mem_B hn).2 (.inr (.inl ⟨e,rfl⟩))
 have hy:b=false→lnP 3 j 121∈linesS (psB n i j a b):=fun e=>(mem_B hn).2 (.inr (.inr ⟨e,rfl⟩))
 obtain ⟨rp,ri⟩:=r
 obtain ⟨sp,si⟩:=s
 rcases (isLn_B hn).1 hr with ⟨r1,r2⟩ | ⟨r1,r2⟩ | ⟨r1,r2⟩<;>rcases (isLn_B hn).1 hs with ⟨s1,s2⟩ | ⟨s1,s2⟩ | ⟨s1,s2⟩<;>simp only [RefD.mk.injEq] at r1 r2 s1 s2
 ·subst r1;subst s1;exact lead_chain hn (by simp [pos] at h;omega) s2
 ·subst r1;obtain ⟨rfl,rfl⟩:=s2;exact lead_in hn hi (hx s1) (by simp [pos] at h;omega)
 ·subst r1;obtain ⟨rfl,rfl⟩:=s2;exact lead_in hn hj (hy s1) (by simp [pos] at h;omega)
 ·subst s1;obtain ⟨rfl,rfl⟩:=r2;exact lead_out hn hi (hx r1) (by simp [pos] at h;omega) s2
 ·obtain ⟨rfl,rfl⟩:=r2;obtain ⟨rfl,rfl⟩:=s2;simp at h
 ·obtain ⟨rfl,rfl⟩:=r2;obtain ⟨rfl,rfl⟩:=s2
  have:i<j:=by simp [pos] at h;omega
  exact (lead_out hn hi (hx r1) (m:=j-1) (by omega) (by omega)).trans nd_B (lead_in hn hj (hy s1) (by omega))
 ·subst s1;obtain ⟨rfl,rfl⟩:=r2;exact lead_out hn hj (hy r1) (by simp [pos] at h;omega) s2
 ·obtain ⟨rfl,rfl⟩:=r2;obtain ⟨rfl,rfl⟩:=s2
  have:j<i:=by simp [pos] at h;omega
  exact (lead_out hn hj (hy r1) (m:=i-1) (by omega) (by omega)).trans nd_B (lead_in hn hi (hx s1) (by omega))
 ·obtain ⟨rfl,rfl⟩:=r2;obtain ⟨rfl,rfl⟩:=s2;simp at h
theorem on_B (hn:2≤n∧n≤9) (hi:i<n) (hj:j<n) {k l:Nat} (hk:k<nX (psB n i j a b)) (hl:l<nX (psB n i j a b)):getB (onS (psB n i j a b)) k l=true↔pos i j (lnX (psB n i j a b) k).ref<pos i j (lnX (psB n i j a b) l).ref:=by
 rw [← leadR_at nd_B hk hl]
 exact ⟨lead_lt hn,lead_of hn hi hj (isLn_at hk) (isLn_at hl)⟩
end
end Go.Proofs.YtlaffgagmncgjabGreatDoor
namespace Go.Proofs.YtlaffgagmncgjabGreatDoor
open Tryz Go Go.Pat Go.Proofs
theorem show_plain:∀ (I:List IT),(∀ x∈I,x.st = -1)→showW I=I.map IT.t:=by
 intro I h
 have st:∀ k,stW I k = -1:=fun k=>by
  unfold stW
  split
  ·rfl
  ·rw [List.getD_eq_getElem?_getD]
   cases e:I[k-1]? with
   | none=>rfl
   | some x=>exact h x (List.mem_of_getElem? e)
 have it:∀ k,k≤I.length→itTo I k=(I.take k).map IT.t:=by
  intro k
  induction k with
  | zero=>intro _;simp [itTo]
  | succ k ih =>
   intro hk
   have hg:I[k]? = some I[k]:=List.getElem?_eq_getElem (by omega)
   rw [itTo_succ,ih (by omega),List.take_succ_eq_append_getElem (by omega),List.map_append]
   congr 1
   unfold itW
   rw [hg]
   simp [st,h I[k] (List.getElem_mem _),signW,sgW]
 unfold showW
 rw [it _ (Nat.le_refl _),st,List.take_length]
 simp [endW]
def idxB (n:Nat) (a:Bool) (r:RefD):Nat:=if r.p=1 then r.i else if r.p=2 then n else if a=true then n else n+1
def lnOf (i j:Nat) (r:RefD):LineD:=if r.p=1 then lnN r.i else if r.p=2 then lnP 2 i 120 else lnP 3 j 121
def rlK (i j:Nat) (a b:Bool) (k:Nat):List RefD:=(if a=false∧k=i then [⟨2,0⟩] else [])++((if b=false∧k=j then [⟨3,0⟩] else [])++(if (a=true∧k=i)∨(b=true∧k=j) then [] else [⟨1,k⟩]))
def RL (n i j:Nat) (a b:Bool):List RefD:=(List.range n).flatMap (rlK i j a b)
def obB (i j:Nat) (a b:Bool) (r:RefD):Bool:=if r.p=2 then b&&(decide (j=i)||decide (j+1=i)) else if r.p=3 then a&&(decide (i=j)||decide (i+1=j)) else false
def shB (i j:Nat) (a b:Bool) (r:RefD):List UInt8:=(if obB i j a b r=true then 33 else 32)::(lnOf i j r).text
section
variable {n i j:Nat} {a b:Bool}
theorem lnOf_ref (hn:2≤n∧n≤9) {r:RefD} (hr:IsLn (psB n i j a b) r):(lnOf i j r).ref=r:=by
 obtain ⟨p,q⟩:=r
 rcases (isLn_B hn).1 hr with ⟨h,_⟩ | ⟨_,h⟩ | ⟨_,h⟩<;>simp at h
 ·subst h;rfl
 ·obtain ⟨rfl,rfl⟩:=h;rfl
 ·obtain ⟨rfl,rfl⟩:=h;rfl
theorem at_B (hn:2≤n∧n≤9) {r:RefD} (hr:IsLn (psB n i j a b) r):(linesS (psB n i j a b))[idxB n a r]? = some (lnOf i j r):=by
 obtain ⟨p,q⟩:=r
 rw [lines_B hn]
 rcases (isLn_B hn).1 hr with ⟨h,h'⟩ | ⟨h',h⟩ | ⟨h',h⟩<;>simp at h
 ·subst h
  have h':q<n:=h'
  rw [List.getElem?_append_left (by simp [idxB];exact h')]
  simp [idxB,lnOf,h']
 ·obtain ⟨rfl,rfl⟩:=h
  subst h'
  rw [List.getElem?_append_right (by simp [idxB])]
  simp [idxB,lnOf]
 ·obtain ⟨rfl,rfl⟩:=h
  subst h'
  rw [List.getElem?_append_right (by simp [idxB];split<;>omega)]
  cases a<;>simp [idxB,lnOf]
theorem lt_B (hn:2≤n∧n≤9) {r:RefD} (hr:IsLn (psB n i j a b) r):idxB n a r<nX (psB n i j a b):=(List.getElem?_eq_some_iff.1 (at_B hn hr)).1
theorem ln_B (hn:2≤n∧n≤9) {r:RefD} (hr:IsLn (psB n i j a b) r):lnX (psB n i j a b) (idxB n a r)=lnOf i j r:=by
 have:=lnX_get (lt_B hn hr)
 rw [at_B hn hr] at this
 exact (Option.some.inj this).symm
theorem ref_B (hn:2≤n∧n≤9) {r:RefD} (hr:IsLn (psB n i j a b) r):(lnX (psB n i j a b) (idxB n a r)).ref=r:=by rw [ln_B hn hr,lnOf_ref hn hr]
theorem idx_B (hn:2≤n∧n≤9) {k:Nat} (hk:k<nX (psB n i j a b)):idxB n a (lnX (psB n i j a b) k).ref=k:=by
 have hr:=isLn_at hk
 have h1:At (linesS (psB n i j a b)) (lnX (psB n i j a b) k).ref k:=(at_iff nd_B).2 ⟨hk,rfl⟩
 have h2:At (linesS (psB n i j a b)) (lnX (psB n i j a b) k).ref (idxB n a (lnX (psB n i j a b) k).ref):=(at_iff nd_B).2 ⟨lt_B hn hr,ref_B hn hr⟩
 unfold At at h1 h2
 rw [h1] at h2
 exact (Option.some.inj h2).symm
theorem kills_N (r:RefD):killsB (pN n) r=false:=by
 unfold killsB
 rw [List.any_eq_false]
 intro c hc
 simp only [pN,List.mem_map] at hc
 obtain ⟨k,_,rfl⟩:=hc
 simp
theorem kills_X {id k:Nat} {del:Bool} {x:UInt8} {r:RefD}:killsB (pX id k del x) r=true↔del=true∧r=⟨1,k⟩:=by
 unfold killsB pX
 cases del
 ·simp
 ·simp only [if_true,List.any_cons,List.any_nil,Bool.or_false,decide_true,Bool.true_and,true_and]
  rw [eqb_iff]
  exact eq_comm
theorem dd_B {k:Nat} (hk:k<nX (psB n i j a b)):ddX (psB n i j a b) k=true↔(a=true∧(lnX (psB n i j a b) k).ref=⟨1,i⟩)∨(b=true∧(lnX (psB n i j a b) k).ref=⟨1,j⟩):=by
 unfold ddX
 rw [toldB_live (lnX_get hk),Bool.not_not]
 unfold toldB
 rw [show psB n i j a b=[pN n,pX 2 i a 120,pX 3 j b 121] from rfl]
 simp only [List.any_cons,List.any_nil,Bool.or_false,kills_N,Bool.false_or,Bool.or_eq_true,kills_X]
theorem mem_rl {k:Nat} {r:RefD}:r∈rlK i j a b k↔(a=false∧k=i∧r=⟨2,0⟩)∨(b=false∧k=j∧r=⟨3,0⟩)∨(¬ ((a=true∧k=i)∨(b=true∧k=j))∧r=⟨1,k⟩):=by
 unfold rlK
 rw [List.mem_append,List.mem_append]
 refine or_congr ?_ (or_congr ?_ ?_)
 ·split
  ·rename_i h;simp [h]
  ·rename_i h;simp;intro h1 h2;exact absurd ⟨h1,h2⟩ h
 ·split
  ·rename_i h;simp [h]
  ·rename_i h;simp;intro h1 h2;exact absurd ⟨h1,h2⟩ h
 ·split
  ·rename_i h;simp [h]
  ·rename_i h;simp [h]
theorem mem_RL (hn:2≤n∧n≤9) (hi:i<n) (hj:j<n) {r:RefD}:r∈RL n i j a b↔IsLn (psB n i j a b) r∧¬ ((a=true∧r=⟨1,i⟩)∨(b=true∧r=⟨1,j⟩)):=by
 unfold RL
 rw [List.mem_flatMap]
 constructor
 ·rintro ⟨k,hk,hr⟩
  have hk:=List.mem_range.1 hk
  rcases mem_rl.1 hr with ⟨h1,h2,rfl⟩ | ⟨h1,h2,rfl⟩ | ⟨h1,rfl⟩
  ·exact ⟨(isLn_B hn).2 (.inr (.inl ⟨h1,rfl⟩)),by simp⟩
  ·exact ⟨(isLn_B hn).2 (.inr (.inr ⟨h1,rfl⟩)),by simp⟩
  ·exact ⟨(isLn_B hn).2 (.inl ⟨rfl,hk⟩),by simpa using h1⟩
 ·rintro ⟨h,hd⟩
  obtain ⟨p,q⟩:=r
  rcases (isLn_B hn).1 h with ⟨h1,h2⟩ | ⟨h1,h2⟩ | ⟨h1,h2⟩
  ·have h1:p=1:=h1
   subst h1
   exact ⟨q,List.mem_range.2 h2,mem_rl.2 (.inr (.inr ⟨by simpa using hd,rfl⟩))⟩
  ·exact ⟨i,List.mem_range.2 hi,mem_rl.2 (.inl ⟨h1,rfl,h2⟩)⟩
  ·exact ⟨j,List.mem_range.2 hj,mem_rl.2 (.inr (.inl ⟨h1,rfl,h2⟩))⟩
theorem pos_rl {k:Nat} {r:RefD} (h:r∈rlK i j a b k):2*k≤pos i j r∧pos i j r≤2*k+1:=by
 rcases mem_rl.1 h with ⟨_,rfl,rfl⟩ | ⟨_,rfl,rfl⟩ | ⟨_,rfl⟩<;>simp [pos]
theorem RL_sort (ht:¬ (a=false∧b=false∧i=j)):(RL n i j a b).Pairwise fun r s=>pos i j r<pos i j s:=by
 unfold RL
 rw [List.pairwise_flatMap]
 refine ⟨fun k _=>?_,List.pairwise_lt_range.imp fun {k l} hkl x hx y hy=>?_⟩
 ·unfold rlK
  refine List.pairwise_append.2 ⟨by split<;>simp,List.pairwise_append.2 ⟨by split<;>simp,by split<;>simp,fun x hx y hy=>?_⟩,fun x hx y hy=>?_⟩
  ·have hx':k=j∧x=⟨3,0⟩:=by split at hx<;>simp_all
   have hy':y=⟨1,k⟩:=by split at hy<;>simp_all
   clear hx hy
   rw [hy',hx'.2]
   simp [pos];omega
  ·have hx':(a=false∧k=i)∧x=⟨2,0⟩:=by split at hx<;>simp_all
   clear hx
   rcases List.mem_append.1 hy with hy | hy
   ·have hy':b=false∧k=j:=by split at hy<;>simp_all
    exact absurd ⟨hx'.1.1,hy'.1,by omega⟩ ht
   ·have hy':y=⟨1,k⟩:=by split at hy<;>simp_all
    rw [hy',hx'.2]
    simp [pos];omega
 ·have:=pos_rl hx;have:=pos_rl hy;omega
theorem pos_inj (hn:2≤n∧n≤9) (ht:¬ (a=false∧b=false∧i=j)) {r s:RefD} (hr:IsLn (psB n i j a b) r) (hs:IsLn (psB n i j a b) s) (h:pos i j r=pos i j s):r=s:=by
 obtain ⟨p,q⟩:=r
 obtain ⟨p',q'⟩:=s
 rcases (isLn_B hn).1 hr with ⟨r1,r2⟩ | ⟨r1,r2⟩ | ⟨r1,r2⟩<;>rcases (isLn_B hn).1 hs with ⟨s1,s2⟩ | ⟨s1,s2⟩ | ⟨s1,s2⟩<;>simp only [RefD.mk.injEq] at r1 r2 s1 s2 ⊢
 ·subst r1;subst s1;simp [pos] at h;exact ⟨rfl,by omega⟩
 ·subst r1;obtain ⟨rfl,rfl⟩:=s2;simp [pos] at h;omega
 ·subst r1;obtain ⟨rfl,rfl⟩:=s2;simp [pos] at h;omega
 ·subst s1;obtain ⟨rfl,rfl⟩:=r2;simp [pos] at h;omega
 ·obtain ⟨rfl,rfl⟩:=r2;obtain ⟨rfl,rfl⟩:=s2;exact ⟨rfl,rfl⟩
 ·obtain ⟨rfl,rfl⟩:=r2;obtain ⟨rfl,rfl⟩:=s2;simp [pos] at h;exact absurd ⟨r1,s1,by omega⟩ ht
 ·subst s1;obtain ⟨rfl,rfl⟩:=r2;simp [pos] at h;omega
 ·obtain ⟨rfl,rfl⟩:=r2;obtain ⟨rfl,rfl⟩:=s2;simp [pos] at h;exact absurd ⟨s1,r1,by omega⟩ ht
 ·obtain ⟨rfl,rfl⟩:=r2;obtain ⟨rfl,rfl⟩:=s2;exact ⟨rfl,rfl⟩
theorem dd_RL (hn:2≤n∧n≤9) (hi:i<n) (hj:j<n) {r:RefD} (h:r∈RL n i j a b):ddX (psB n i j a b) (idxB n a r)=false:=by
 obtain ⟨h1,h2⟩:=(mem_RL hn hi hj).1 h
 rw [Bool.eq_false_iff]
 intro e
 have:=(dd_B (lt_B hn h1)).1 e
 rw [ref_B hn h1] at this
 exact h2 this
theorem ahead_B (hn:2≤n∧n≤9) (hi:i<n) (hj:j<n) {r s:RefD} (hr:r∈RL n i j a b) (hs:s∈RL n i j a b) (h:pos i j r<pos i j s):aheadW (ddX (psB n i j a b)) (onS (psB n i j a b)) (idxB n a r) (idxB n a s)=true:=by
 have h1:=((mem_RL hn hi hj).1 hr).1
 have h2:=((mem_RL hn hi hj).1 hs).1
 refine aheadW_iff.2 ⟨dd_RL hn hi hj hr,dd_RL hn hi hj hs,(on_B hn hi hj (lt_B hn h1) (lt_B hn h2)).2 (by rw [ref_B hn h1,ref_B hn h2];exact h),Bool.eq_false_iff.2 fun e=>?_⟩
 have:=(on_B hn hi hj (lt_B hn h2) (lt_B hn h1)).1 e
 rw [ref_B hn h1,ref_B hn h2] at this
 omega
theorem back_B (hn:2≤n∧n≤9) (hi:i<n) (hj:j<n) {k:Nat} (hk:k<nX (psB n i j a b)) (hd:ddX (psB n i j a b) k=false):(lnX (psB n i j a b) k).ref∈RL n i j a b:=by
 refine (mem_RL hn hi hj).2 ⟨isLn_at hk,fun e=>?_⟩
 rw [(dd_B hk).2 e] at hd
 cases hd
theorem fx_B (hn:2≤n∧n≤9) (hi:i<n) (hj:j<n) (ht:¬ (a=false∧b=false∧i=j)) {r:RefD} (hr:r∈RL n i j a b):fxX (psB n i j a b) (idxB n a r)=true:=by
 unfold fxX setW
 rw [dd_RL hn hi hj hr]
 simp only [Bool.not_false,Bool.true_and,List.all_eq_true,List.mem_range,Bool.or_eq_true,decide_eq_true_eq]
 intro k hk
 cases hd:ddX (psB n i j a b) k
 ·have hs:=back_B hn hi hj hk hd
  have hk':=idx_B hn hk
  have h1:=((mem_RL hn hi hj).1 hr).1
  have h2:=isLn_at hk
  generalize (lnX (psB n i j a b) k).ref=s at hs hk' h2
  subst hk'
  rcases Nat.lt_trichotomy (pos i j r) (pos i j s) with e | e | e
  ·exact .inr (.inr (ahead_B hn hi hj hr hs e))
  ·rw [pos_inj hn ht h1 h2 e];exact .inl (.inl rfl)
  ·exact .inr (.inl (ahead_B hn hi hj hs hr e))
 ·exact .inl (.inr rfl)
theorem ord_B (hn:2≤n∧n≤9) (hi:i<n) (hj:j<n) (ht:¬ (a=false∧b=false∧i=j)) {sd:Nat→Int} (hs:StrX (psB n i j a b) sd):ordX (psB n i j a b) sd=(RL n i j a b).map (idxB n a):=by
 refine sort_ext (firstW_lin _ _ _ _) (ordX_sort _ sd) ?_ fun k=>?_
 ·rw [List.pairwise_map]
  refine (RL_sort ht).imp_of_mem fun {r s} hr hs' h=>?_
  exact ahead_first hs (lt_B hn ((mem_RL hn hi hj).1 hr).1) (lt_B hn ((mem_RL hn hi hj).1 hs').1) (ahead_B hn hi hj hr hs' h)
 ·rw [ordX_iff,List.mem_map]
  constructor
  ·rintro ⟨h1,h2⟩
   exact ⟨_,back_B hn hi hj h1 h2,idx_B hn h1⟩
  ·rintro ⟨r,hr,rfl⟩
   exact ⟨lt_B hn ((mem_RL hn hi hj).1 hr).1,dd_RL hn hi hj hr⟩
theorem reach_B {q c:Nat} (h:Reach (psB n i j a b) q c):c=q∨c=1:=by
 refine h (fun c=>c=q∨c=1) (.inl rfl) fun x d p _ hp _ hd=>.inr ?_
 simp only [psB,List.mem_cons,List.not_mem_nil,or_false] at hp
 rcases hp with rfl | rfl | rfl
 ·simp [pN] at hd
 ·simpa [pX] using hd
 ·simpa [pX] using hd
theorem up_eq {k m:Nat}:upR k=⟨1,m⟩↔m+1=k:=by
 unfold upR
 split
 ·simp;omega
 ·simp;omega
theorem orphan_B (hn:2≤n∧n≤9) {r:RefD} (hr:IsLn (psB n i j a b) r):Orphan (psB n i j a b) (lnOf i j r)↔obB i j a b r=true:=by
 rw [orphan_iff]
 have key:(∃ p∈psB n i j a b,OrpAt (psB n i j a b) (lnOf i j r) p)↔OrpAt (psB n i j a b) (lnOf i j r) (pX 2 i a 120)∨OrpAt (psB n i j a b) (lnOf i j r) (pX 3 j b 121):=by
  constructor
  ·rintro ⟨p,hp,h⟩
   simp only [psB,List.mem_cons,List.not_mem_nil,or_false] at hp
   rcases hp with rfl | rfl | rfl
   ·have:=h.2;rw [kills_N,kills_N] at this;cases this
   ·exact .inl h
   ·exact .inr h
  ·rintro (h | h)
   ·exact ⟨_,by simp [psB],h⟩
   ·exact ⟨_,by simp [psB],h⟩
 rw [key]
 have r21:Reach (psB n i j a b) 2 1:=Reach.step .refl (p:=pX 2 i a 120) (by simp [psB]) rfl (by simp [pX])
 have r31:Reach (psB n i j a b) 3 1:=Reach.step .refl (p:=pX 3 j b 121) (by simp [psB]) rfl (by simp [pX])
 obtain ⟨p,q⟩:=r
 unfold OrpAt
 simp only [Bool.or_eq_true,kills_X]
 rcases (isLn_B hn).1 hr with ⟨h,_⟩ | ⟨_,h⟩ | ⟨_,h⟩<;>simp only [RefD.mk.injEq] at h
 ·subst h
  simp only [lnOf,lnN,pX,if_true,obB]
  simp [r21,r31]
 ·obtain ⟨rfl,rfl⟩:=h
  have e1:¬ Reach (psB n i j a b) 3 2:=fun e=>by have:=reach_B e;omega
  have e2:¬ Reach (psB n i j a b) 2 3:=fun e=>by have:=reach_B e;omega
  have e3:Reach (psB n i j a b) 2 2:=.refl
  simp only [lnOf,lnP,pX,obB]
  simp [e1,e2,e3]
  constructor
  ·rintro (⟨h1,h2⟩ | ⟨h1,h2⟩)
   ·exact ⟨h1,.inr (up_eq.1 h2)⟩
   ·exact ⟨h1,.inl h2.symm⟩
  ·rintro ⟨h1,h2 | h2⟩
   ·exact .inr ⟨h1,h2.symm⟩
   ·exact .inl ⟨h1,up_eq.2 h2⟩
 ·obtain ⟨rfl,rfl⟩:=h
  have e1:¬ Reach (psB n i j a b) 3 2:=fun e=>by have:=reach_B e;omega
  have e2:¬ Reach (psB n i j a b) 2 3:=fun e=>by have:=reach_B e;omega
  have e3:Reach (psB n i j a b) 3 3:=.refl
  simp only [lnOf,lnP,pX,obB]
  simp [e1,e2,e3]
  constructor
  ·rintro (⟨h1,h2⟩ | ⟨h1,h2⟩)
   ·exact ⟨h1,.inr (up_eq.1 h2)⟩
   ·exact ⟨h1,.inl h2.symm⟩
  ·rintro ⟨h1,h2 | h2⟩
   ·exact .inr ⟨h1,h2.symm⟩
   ·exact .inl ⟨h1,up_eq.2 h2⟩
theorem show_B (hn:2≤n∧n≤9) (hi:i<n) (hj:j<n) (ht:¬ (a=false∧b=false∧i=j)) {sd:Nat→Int} {orx:Nat→Bool} (h:NumX (psB n i j a b) sd orx):showW (itemsX (psB n i j a b) sd orx)=(RL n i j a b).map (shB i j a b):=by
 have hit:itemsX (psB n i j a b) sd orx=(RL n i j a b).map fun r=>⟨-1,shB i j a b r⟩:=by
  unfold itemsX
  rw [ord_B hn hi hj ht h.str,List.map_map]
  refine List.map_congr_left fun r hr=>?_
  obtain ⟨h1,h2⟩:=(mem_RL hn hi hj).1 hr
  have hfx:=fx_B hn hi hj ht hr
  have hsd:=h.str.fixed _ (lt_B hn h1) (dd_RL hn hi hj hr) hfx
  have hring:ringW (nX (psB n i j a b)) (ddX (psB n i j a b)) (onS (psB n i j a b)) (idxB n a r)=false:=by
   unfold ringW
   rw [List.any_eq_false]
   intro k hk e
   have hk:=List.mem_range.1 hk
   simp only [Bool.and_eq_true] at e
   have e1:=(on_B hn hi hj (lt_B hn h1) hk).1 e.2.1
   have e2:=(on_B hn hi hj hk (lt_B hn h1)).1 e.2.2
   omega
  have hor:orx (idxB n a r)=obB i j a b r:=by
   rw [Bool.eq_iff_iff,h.orp _ (lt_B hn h1),ln_B hn h1,orphan_B hn h1]
  show IT.mk _ _=IT.mk _ _
  rw [hsd,ln_B hn h1]
  unfold markX shB
  rw [hor,hring,hfx]
  cases obB i j a b r<;>rfl
 rw [hit,show_plain _ (fun x hx=>by obtain ⟨r,_,rfl⟩:=List.mem_map.1 hx;rfl),List.map_map]
 rfl
end
end Go.Proofs.YtlaffgagmncgjabGreatDoor
namespace Go.Proofs.YtlaffgagmncgjabGreatDoor
open Tryz Go Go.Pat Go.Proofs
def wantT (n i:Nat):List (List UInt8):=(List.range n).flatMap fun k=>(if k=i then [[60],[124,120],[61],[124,121],[62]] else [])++[32::bT k]
def tieOk (n:Nat):Bool:=(List.range n).all fun i=>lotOk (psB n i i false false) (List.replicate n 0++[n,n+1]) (List.replicate (n+2) false) (wantT n i)
theorem tie2:tieOk 2=true:=by kernel_rfl
theorem tie3:tieOk 3=true:=by kernel_rfl
theorem tie4:tieOk 4=true:=by kernel_rfl
theorem tie5:tieOk 5=true:=by kernel_rfl
theorem tie6:tieOk 6=true:=by kernel_rfl
theorem tie7:tieOk 7=true:=by kernel_rfl
theorem tie8:tieOk 8=true:=by kernel_rfl
theorem tie9:tieOk 9=true:=by kernel_rfl
theorem tie_ok {n:Nat} (hn:2≤n∧n≤9):tieOk n=true:=by
 rcases eight hn with rfl | rfl | rfl | rfl | rfl | rfl | rfl | rfl
 ·exact tie2
 ·exact tie3
 ·exact tie4
 ·exact tie5
 ·exact tie6
 ·exact tie7
 ·exact tie8
 ·exact tie9
theorem show_T {n i:Nat} (hn:2≤n∧n≤9) (hi:i<n) {sd:Nat→Int} {orx:Nat→Bool} (h:NumX (psB n i i false false) sd orx):showW (itemsX (psB n i i false false) sd orx)=wantT n i :=
 lot_show (List.all_eq_true.1 (tie_ok hn) i (List.mem_range.2 hi)) h
theorem blank_T {n i:Nat} (hn:2≤n∧n≤9) (hi:i<n) {sd:Nat→Int} {orx:Nat→Bool}:blankX (psB n i i false false) orx (ordX (psB n i i false false) sd)=false:=by
 have lx:IsLn (psB n i i false false) ⟨2,0⟩:=(isLn_B hn).2 (.inr (.inl ⟨rfl,rfl⟩))
 have ly:IsLn (psB n i i false false) ⟨3,0⟩:=(isLn_B hn).2 (.inr (.inr ⟨rfl,rfl⟩))
 have mx:(⟨2,0⟩:RefD)∈RL n i i false false:=(mem_RL hn hi hi).2 ⟨lx,by simp⟩
 have my:(⟨3,0⟩:RefD)∈RL n i i false false:=(mem_RL hn hi hi).2 ⟨ly,by simp⟩
 have dx:=dd_RL hn hi hi mx
 have dy:=dd_RL hn hi hi my
 have tx:=lt_B hn lx
 have ty:=lt_B hn ly
 have rx:=ref_B hn lx
 have ry:=ref_B hn ly
 have hne:idxB n false ⟨3,0⟩≠idxB n false ⟨2,0⟩:=by simp [idxB]
 generalize idxB n false ⟨2,0⟩=kx at *
 generalize idxB n false ⟨3,0⟩=ky at *
 have oxy:getB (onS (psB n i i false false)) kx ky=false:=Bool.eq_false_iff.2 fun e=>by
  have:=(on_B hn hi hi tx ty).1 e
  rw [rx,ry] at this
  simp [pos] at this
 have oyx:getB (onS (psB n i i false false)) ky kx=false:=Bool.eq_false_iff.2 fun e=>by
  have:=(on_B hn hi hi ty tx).1 e
  rw [rx,ry] at this
  simp [pos] at this
 have hfx:fxX (psB n i i false false) kx=false:=by
  rw [Bool.eq_false_iff]
  intro e
  unfold fxX setW at e
  rw [Bool.and_eq_true,List.all_eq_true] at e
  have:=e.2 ky (List.mem_range.2 ty)
  simp [hne,dy,aheadW,aheadS,oxy,oyx] at this
 rw [Bool.eq_false_iff]
 intro e
 unfold blankX at e
 have:=of_decide_eq_true (List.all_eq_true.1 e kx (ordX_iff.2 ⟨tx,dx⟩))
 unfold markX at this
 rw [hfx] at this
 split at this
 ·omega
 ·split at this
  ·omega
  ·simp at this
end Go.Proofs.YtlaffgagmncgjabGreatDoor
namespace Go.Proofs.YtlaffgagmncgjabGreatDoor
open Tryz Go Go.Pat Go.Proofs
def eqPs:List PatchD→List PatchD→Bool
 | [],[]=>true
 | a::l,b::m=>eqP a b&&eqPs l m
 | _,_=>false
theorem eqPs_eq:∀ {l m:List PatchD},eqPs l m=true→l=m
 | [],[],_=>rfl
 | a::l,b::m,h=>by
  unfold eqPs at h
  rw [Bool.and_eq_true] at h
  rw [eqP_eq h.1,eqPs_eq h.2]
 | [],b::m,h=>by cases h
 | a::l,[],h=>by cases h
def apOk (ps:List PatchD) (p:PatchD) (qs:List PatchD):Bool:=decide ((applyS ps (textS p)).1=0)&&eqPs (applyS ps (textS p)).2 qs
theorem apOk_eq {ps qs:List PatchD} {p:PatchD} (h:apOk ps p qs=true):applyS ps (textS p)=(0,qs):=by
 unfold apOk at h
 rw [Bool.and_eq_true,decide_eq_true_iff] at h
 exact Prod.ext h.1 (eqPs_eq h.2)
def chkA (n id:Nat) (x:UInt8):Bool:=(List.range n).all fun i=>(apOk [pN n] (pX id i true x) [pN n,pX id i true x]&&apOk [pN n] (pX id i false x) [pN n,pX id i false x])&&(fileOk (wB n i true x)&&fileOk (wB n i false x))
theorem apN2:(apOk [] (pN 2) [pN 2]&&fileOk (bL 2))=true:=by kernel_rfl
theorem apX2:chkA 2 2 120=true:=by kernel_rfl
theorem apY2:chkA 2 3 121=true:=by kernel_rfl
theorem apN3:(apOk [] (pN 3) [pN 3]&&fileOk (bL 3))=true:=by kernel_rfl
theorem apX3:chkA 3 2 120=true:=by kernel_rfl
theorem apY3:chkA 3 3 121=true:=by kernel_rfl
theorem apN4:(apOk [] (pN 4) [pN 4]&&fileOk (bL 4))=true:=by kernel_rfl
theorem apX4:chkA 4 2 120=true:=by kernel_rfl
theorem apY4:chkA 4 3 121=true:=by kernel_rfl
theorem apN5:(apOk [] (pN 5) [pN 5]&&fileOk (bL 5))=true:=by kernel_rfl
theorem apX5:chkA 5 2 120=true:=by kernel_rfl
theorem apY5:chkA 5 3 121=true:=by kernel_rfl
theorem apN6:(apOk [] (pN 6) [pN 6]&&fileOk (bL 6))=true:=by kernel_rfl
theorem apX6:chkA 6 2 120=true:=by kernel_rfl
theorem apY6:chkA 6 3 121=true:=by kernel_rfl
theorem apN7:(apOk [] (pN 7) [pN 7]&&fileOk (bL 7))=true:=by kernel_rfl
theorem apX7:chkA 7 2 120=true:=by kernel_rfl
theorem apY7:chkA 7 3 121=true:=by kernel_rfl
theorem apN8:(apOk [] (pN 8) [pN 8]&&fileOk (bL 8))=true:=by kernel_rfl
theorem apX8:chkA 8 2 120=true:=by kernel_rfl
theorem apY8:chkA 8 3 121=true:=by kernel_rfl
theorem apN9:(apOk [] (pN 9) [pN 9]&&fileOk (bL 9))=true:=by kernel_rfl
theorem apX9:chkA 9 2 120=true:=by kernel_rfl
theorem apY9:chkA 9 3 121=true:=by kernel_rfl
theorem ap_N {n:Nat} (hn:2≤n∧n≤9):(apOk [] (pN n) [pN n]&&fileOk (bL n))=true:=by
 rcases eight hn with rfl | rfl | rfl | rfl | rfl | rfl | rfl | rfl
 ·exact apN2
 ·exact apN3
 ·exact apN4
 ·exact apN5
 ·exact apN6
 ·exact apN7
 ·exact apN8
 ·exact apN9
theorem ap_X {n:Nat} (hn:2≤n∧n≤9):chkA n 2 120=true:=by
 rcases eight hn with rfl | rfl | rfl | rfl | rfl | rfl | rfl | rfl
 ·exact apX2
 ·exact apX3
 ·exact apX4
 ·exact apX5
 ·exact apX6
 ·exact apX7
 ·exact apX8
 ·exact apX9
theorem ap_Y {n:Nat} (hn:2≤n∧n≤9):chkA n 3 121=true:=by
 rcases eight hn with rfl | rfl | rfl | rfl | rfl | rfl | rfl | rfl
 ·exact apY2
 ·exact apY3
 ·exact apY4
 ·exact apY5
 ·exact apY6
 ·exact apY7
 ·exact apY8
 ·exact apY9
def Who (id:Nat) (x:UInt8):Prop:=(id=2∧x=120)∨(id=3∧x=121)
section
variable {n i id e:Nat} {del:Bool} {x:UInt8} {t:List UInt8}
theorem begun_rec (hn:2≤n∧n≤9) (h:RecX [] 1 (bL n) e t):e=0∧t=textS (pN n)∧applyS [] (textS (pN n))=(0,[pN n]):=by
 have h0:=ap_N hn
 rw [Bool.and_eq_true] at h0
 have:=rec_of (id:=1) (P:=pN n) h (by omega) h0.2 (by simp) (fun sd orx _=>rec_N hn orx) (by simp [pN];omega)
 exact ⟨this.1,this.2,apOk_eq h0.1⟩
theorem chkA_of (hn:2≤n∧n≤9) (hw:Who id x) (hi:i<n):applyS [pN n] (textS (pX id i del x))=(0,[pN n,pX id i del x])∧fileOk (wB n i del x)=true:=by
 have h:chkA n id x=true:=by
  rcases hw with ⟨rfl,rfl⟩ | ⟨rfl,rfl⟩
  ·exact ap_X hn
  ·exact ap_Y hn
 have:=List.all_eq_true.1 h i (List.mem_range.2 hi)
 simp only [Bool.and_eq_true] at this
 obtain ⟨⟨h1,h2⟩,h3,h4⟩:=this
 cases del
 ·exact ⟨apOk_eq h2,h4⟩
 ·exact ⟨apOk_eq h1,h3⟩
theorem no_orphan {sd:Nat→Int} {orx:Nat→Bool} (h:NumX [pN n] sd orx) (hl:nX [pN n]=n):orx=fun k=>if k<n then false else orx k:=by
 funext k
 split
 ·rename_i hk
  rw [Bool.eq_false_iff]
  intro e
  obtain ⟨p,hp,ho⟩:=(orphan_iff _ _).1 ((h.orp k (by omega)).1 e)
  simp only [List.mem_cons,List.not_mem_nil,or_false] at hp
  subst hp
  have hk:∀ r,killsB (pN n) r=false:=fun r=>by
   unfold killsB
   rw [List.any_eq_false]
   intro c hc
   simp only [pN,List.mem_map] at hc
   obtain ⟨k,_,rfl⟩:=hc
   simp
  have:=ho.2
  rw [hk,hk] at this
  cases this
 ·rfl
theorem nX_N (hn:2≤n∧n≤9):nX [pN n]=n:=by
 rcases eight hn with rfl | rfl | rfl | rfl | rfl | rfl | rfl | rfl<;>rfl
theorem change_rec (hn:2≤n∧n≤9) (hw:Who id x) (hi:i<n) (h:RecX [pN n] (id:Int) (wB n i del x) e t):e=0∧t=textS (pX id i del x):=by
 refine rec_of h (by rcases hw with ⟨rfl,_⟩ | ⟨rfl,_⟩<;>omega) (chkA_of hn hw hi).2 (fun p hp=>?_) (fun sd orx hx=>?_) (by simp [pX])
 ·simp only [List.mem_cons,List.not_mem_nil,or_false] at hp
  subst hp
  rcases hw with ⟨rfl,_⟩ | ⟨rfl,_⟩<;>simp [pN]
 ·rw [ord_N hn,no_orphan hx (nX_N hn)]
  have hc:chk n id x orx=true:=by
   rcases hw with ⟨rfl,rfl⟩ | ⟨rfl,rfl⟩
   ·exact chk_X hn orx
   ·exact chk_Y hn orx
  have:=List.all_eq_true.1 hc i (List.mem_range.2 hi)
  rw [Bool.and_eq_true] at this
  cases del
  ·exact eqP_eq this.2
  ·exact eqP_eq this.1
end
end Go.Proofs.YtlaffgagmncgjabGreatDoor
