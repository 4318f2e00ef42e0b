import Derived.Test.YtlaffgagmncgjabDoorH2
set_option maxRecDepth 20000
set_option maxHeartbeats 800000
namespace Go.Proofs.YtlaffgagmncgjabDoor
open Go Go.Pat Go.Proofs
def SL.cells (l:SL):List Value:=[.string (str l.nm),.string (str l.up),.string (str l.dn),.string (str l.tx)]
theorem SL.one (l:SL):One l.cells:=by intro u hu;simp [SL.cells] at hu;rcases hu with rfl | rfl | rfl | rfl<;>rfl
theorem SL.len (l:SL):l.cells.length=4:=rfl
def slC (L:List SL):List Value:=L.flatMap SL.cells
theorem slC_append (L M:List SL):slC (L++M)=slC L++slC M:=by simp [slC]
theorem slC_one (l:SL):slC [l]=l.cells:=by simp [slC]
theorem hShow_ret {F:Nat→Prop} {a:Nat} {ps:List PatchD} {h:Heap} (hs:Sto F h a ps) (hF:∀ k,F k→k<h.size) :
  Ret Tryd.prog 32 #[.pointer (some ⟨a,0,none⟩)] h fun v h'=>Ext h h'∧∃ sd orx,NumX ps sd orx∧Own h' 9 1 v (showW (itemsX ps sd orx)).length (strs (showW (itemsX ps sd orx)))∧∀ k,v.ownBlock=some k→h.size≤k:=by
 obtain ⟨lv,l,h1,h2,h3,h4⟩:=hs
 subst h3
 exact xShow_ret a l lv h h1 h2 hF h4.inv
theorem hClean_ret {F:Nat→Prop} {a:Nat} {ps:List PatchD} {h:Heap} (hs:Sto F h a ps) (hF:∀ k,F k→k<h.size) :
  Ret Tryd.prog 33 #[.pointer (some ⟨a,0,none⟩)] h fun v h'=>Ext h h'∧∃ sd orx,NumX ps sd orx∧v = .bool (blankX ps orx (ordX ps sd)):=by
 obtain ⟨lv,l,h1,h2,h3,h4⟩:=hs
 subst h3
 exact xClean_ret a l lv h h1 h2 hF h4.inv
theorem hLog_ret {F:Nat→Prop} {a:Nat} {ps:List PatchD} {h:Heap} (hs:Sto F h a ps) :
  Ret Tryd.prog 19 #[.pointer (some ⟨a,0,none⟩)] h fun v h'=>Ext h h'∧Own h' 3 1 v (idsS ps).length (ints (idsS ps))∧Moved h (.slice none 0 0) v:=by
 obtain ⟨lv,l,h1,h2,h3,h4⟩:=hs
 subst h3
 have:=h4.inv.len
 exact xLog_ret a l lv h h1 h2 (by simp at this;omega)
theorem plain_hsplit:Plain Tryd.prog 53:=⟨_,Tryd.func53,by decide +kernel,by rfl⟩
theorem plain_hdigits:Plain Tryd.prog 54:=⟨_,Tryd.func54,by decide +kernel,by rfl⟩
theorem plain_hamong:Plain Tryd.prog 31:=⟨_,Tryd.func31,by decide +kernel,by rfl⟩
theorem plain_hsaid:Plain Tryd.prog 30:=⟨_,Tryd.func30,by decide +kernel,by rfl⟩
theorem plain_hnothing:Plain Tryd.prog 15:=⟨_,Tryd.func15,by decide +kernel,by rfl⟩
theorem plain_hinOrder:Plain Tryd.prog 34:=⟨_,Tryd.func34,by decide +kernel,by rfl⟩
theorem hsplit_ret (l:List UInt8) (c:UInt8) (h:Heap) (hl:l.length≤16777216):Ret Tryd.prog 53 #[.string (str l),.int .u8 (c.toNat:Int)] h fun v h' =>
  Ext h h'∧Own h' 9 1 v (splitL c l).length (strs (splitL c l))∧Moved h (.slice none 0 0) v:=by
 refine Ret.of_body Tryd.func53 rfl Tryd.ntmps53 rfl rfl ?_
 refine zgo ?_
 refine Runs.loop (X:=SX) (fun x=>[(0,.string (str l)),(1,.int .u8 (c.toNat:Int)),(5,x.v),(6,.int .i64 (x.fr:Int)),(7,.int .i64 (x.i:Int))])
  (fun x h'=>Ext h h'∧Own h' 9 1 x.v x.ps.length (strs x.ps)∧Moved h (.slice none 0 0) x.v∧x.fr≤x.i∧x.i≤l.length∧x.ps.length≤x.i∧splitL c l=x.ps++consPre ((l.take x.i).drop x.fr) (splitL c (l.drop x.i)))
  (fun x=>l.length-x.i) ⟨0,0,.slice none 0 0,[]⟩ ⟨rfl,rfl,rfl,rfl,rfl,trivial⟩ ⟨Fr.refl _ _,Own.nil _ _ _,by intro k hk;simp [Value.ownBlock] at hk,Nat.le_refl _,Nat.zero_le _,Nat.le_refl _,?_⟩ ?_
 ·simp only [List.take_zero,List.drop_nil,List.drop_zero,List.nil_append]
  cases hs:splitL c l with
  | nil=>exact absurd hs (splitL_ne c l)
  | cons q qs=>rfl
 rintro ⟨i,fr,v,ps⟩ h1 ⟨hx,hown,hmv,hfi,hil,hpi,hspec⟩ ih
 dsimp only at hx hown hmv hfi hil hpi hspec ih ⊢
 refine zgo ?_
 refine Runs.cond_dec rfl (fun hlt=>?_) (fun hge=>?_)
 ·have hlt':i<l.length:=by omega
  obtain ⟨x,hget⟩:∃ x,l[i]? = some x:=⟨l[i],List.getElem?_eq_getElem hlt'⟩
  refine zgo ?_
  refine Runs.cond_dec rfl (fun heq=>?_) (fun hne=>?_)
  ·refine zgo ?_
   refine zh (one_str _) hown ?_
   intro v' h' q1 q2 q3
   refine zgo ?_
   have hxc:x=c:=UInt8.toNat.inj (by omega)
   refine ih ⟨i+1,i+1,v',ps++[(l.take i).drop fr]⟩ _ _ (by dsimp only;omega) ⟨rfl,rfl,rfl,rfl,rfl,trivial⟩ ⟨hx.trans_new (q2.mono ?_),by simpa [strs] using q1,?_,Nat.le_refl _,hlt',by simp;omega,?_⟩
   ·intro k _ hk;right;have:=hmv k hk;simpa [Value.ownBlock] using this
   ·intro k hk
    right
    rcases q3 k hk with e | e
    ·have:=hmv k e;simpa [Value.ownBlock] using this
    ·have:=hx.size;omega
   ·rw [hspec,List.drop_eq_getElem_cons hlt']
    have:l[i]=c:=by rw [List.getElem?_eq_getElem hlt'] at hget;cases hget;exact hxc
    rw [this]
    have hd:List.drop (i+1) (List.take (i+1) l)=[]:=by simp
    simp only [splitL,if_true,consPre,List.append_nil,hd]
    cases hs:splitL c (List.drop (i+1) l) with
    | nil=>exact absurd hs (splitL_ne c _)
    | cons q qs=>simp
  ·refine zgo ?_
   refine ih ⟨i+1,fr,v,ps⟩ _ _ (by dsimp only;omega) ⟨rfl,rfl,rfl,rfl,rfl,trivial⟩ ⟨hx,hown,hmv,by dsimp only;omega,hlt',by dsimp only;omega,?_⟩
   have hxc:x≠c:=fun e=>hne (by rw [e])
   have hxe:l[i]=x:=by rw [List.getElem?_eq_getElem hlt'] at hget;cases hget;rfl
   rw [hspec,List.drop_eq_getElem_cons hlt',hxe,consPre_snoc hxc]
   congr 2
   rw [List.take_succ_eq_append_getElem hlt',hxe,List.drop_append_of_le_length (by simp;omega)]
 ·refine zgo ?_
  refine zh (one_str _) hown ?_
  intro v' h' q1 q2 q3
  refine zgo ?_
  have hi:i=l.length:=by omega
  subst hi
  have hfin:splitL c l=ps++[l.drop fr]:=by rw [hspec];simp [splitL,consPre]
  refine Runs.ret Tryd.func53 (ret1 Tryd.results53 rfl) ⟨hx.trans_new (q2.mono ?_),?_,?_⟩
  ·intro k _ hk;right;have:=hmv k hk;simpa [Value.ownBlock] using this
  ·rw [hfin];simpa [strs] using q1
  ·intro k hk
   right
   rcases q3 k hk with e | e
   ·have:=hmv k e;simpa [Value.ownBlock] using this
   ·have:=hx.size;omega
theorem hdigits_ret (n:Nat) (h:Heap) (hn:n<1000000):Ret Tryd.prog 54 #[.int .i64 (n:Int)] h fun v h'=>Ext h h'∧v = .string (str (decS n)):=by
 induction n using Nat.strongRecOn generalizing h with
 | _ n ihn =>
 refine Ret.of_body Tryd.func54 rfl Tryd.ntmps54 rfl rfl ?_
 refine zgo ?_
 refine WO.val (ov_rem rfl rfl rfl (by omega) (by omega)) rfl rfl rfl ?_
 refine WO.val (ov_add rfl rfl rfl (in_i64 (by omega) (by omega))) rfl rfl rfl ?_
 refine WO.val (ov_conv tab_ok rfl rfl rfl rfl (in_u8 (by omega) (by omega))) rfl rfl rfl ?_
 refine WO.ex rfl rfl rfl (ox_build1 tab_ok rfl rfl rfl rfl rfl rfl rfl rfl ?_)
 have hdig:(UInt8.ofNat (48+n % 10)).toNat=48+n % 10:=by rw [UInt8.toNat_ofNat'];omega
 refine WO.val (ov_bstr (l:=[UInt8.ofNat (48+n % 10)]) tab_ok rfl rfl rfl rfl rfl ?_) rfl rfl rfl ?_
 ·have hc:=cells_push_new (h:=h) [Value.int .u8 (48+(n:Int) % 10)] 5 (0,0)
  have e:(([UInt8.ofNat (48+n % 10)]:List UInt8).map fun (q:UInt8)=>Value.int .u8 (q.toNat:Int))=[Value.int .u8 (48+(n:Int) % 10)]:=by
   simp only [List.map_cons,List.map_nil,hdig]
   congr 2
  rw [e]
  exact hc
 generalize hh1:(h.push (.cells ([Value.int .u8 (48+(n:Int) % 10)]:List Value).toArray 5 (0,0)))=h1
 have hx1:Ext h h1:=by rw [← hh1];exact Fr.push _ _ _
 clear hh1
 refine zgo ?_
 refine Runs.cond_dec rfl (fun q1=>?_) (fun q1=>?_)
 ·refine zgo ?_
  refine Runs.ret Tryd.func54 (ret1 Tryd.results54 rfl) ⟨hx1,?_⟩
  rw [decS_small (by omega),Nat.mod_eq_of_lt (by omega)]
 ·have hlen:=decS_len 5 (n / 10) (by omega)
  refine zgo ?_
  refine WO.val (ov_quo rfl rfl rfl (by omega) (by omega) (in_i64 (by omega) (by omega))) rfl rfl rfl ?_
  refine WO.call rfl rfl rfl rfl plain_hdigits rfl (ihn (n / 10) (by omega) _ (by omega)) fun v h2 ⟨hx2,hv2⟩=>?_
  subst hv2
  refine zgo ?_
  refine Runs.ret Tryd.func54 (ret1 Tryd.results54 rfl) ⟨hx1.trans hx2,?_⟩
  rw [decS_big (n:=n) (by omega)]
def amongS (l:List (List UInt8)) (x:List UInt8) (z:Int):Prop:=(∃ k:Nat,l[k]? = some x∧(∀ j,j<k→l[j]? ≠ some x)∧z=(k:Int))∨(x∉l∧z = -1)
theorem hamong_ret (l:List (List UInt8)) (x:List UInt8) (v:Value) (h:Heap) (hl:l.length≤16777216) (hr:Rd h 1 v l.length (strs l)):Ret Tryd.prog 31 #[v,.string (str x)] h fun r h' =>
  h'=h∧∃ z,amongS l x z∧r = .int .i64 z:=by
 obtain ⟨ad,cap,hv⟩:=hr.form
 subst hv
 refine Ret.of_body Tryd.func31 rfl Tryd.ntmps31 rfl rfl ?_
 refine zgo ?_
 refine Runs.loop (X:=Nat) (fun i=>[(0,.slice ad l.length cap),(1,.string (str x)),(7,.int .i64 (l.length:Int)),(8,.int .i64 (i:Int))])
  (fun i h'=>h=h'∧i≤l.length∧∀ j,j<i→l[j]? ≠ some x) (fun i=>l.length-i) 0 ⟨rfl,rfl,rfl,rfl,trivial⟩ ⟨rfl,Nat.zero_le _,fun j hj=>by omega⟩ ?_
 rintro i _ ⟨rfl,hi,hnot⟩ ih
 refine zgo ?_
 refine Runs.cond_dec rfl (fun hlt=>?_) (fun hge=>?_)
 ·have hlt':i<l.length:=by omega
  obtain ⟨y,hget⟩:∃ y,l[i]? = some y:=⟨l[i],List.getElem?_eq_getElem hlt'⟩
  obtain ⟨b,p,cap',hv,hcap,hcell⟩:=hr.cell (strs_get hget)
  cases hv
  refine zgo ?_
  refine Runs.cond_dec rfl (fun heq=>?_) (fun hne=>?_)
  ·refine zgo ?_
   exact Runs.ret Tryd.func31 (ret1 Tryd.results31 rfl) ⟨rfl,_,.inl ⟨i,by rw [hget,heq],hnot,rfl⟩,rfl⟩
  ·refine zgo ?_
   refine ih (i+1) _ _ (by omega) ⟨rfl,rfl,rfl,rfl,trivial⟩ ⟨rfl,by omega,fun j hj=>?_⟩
   by_cases e:j=i
   ·subst e
    rw [hget]
    exact fun e=>hne (Option.some.inj e)
   ·exact hnot j (by omega)
 ·refine zgo ?_
  refine Runs.ret Tryd.func31 (ret1 Tryd.results31 rfl) ⟨rfl,_,.inr ⟨fun hm=>?_,rfl⟩,rfl⟩
  obtain ⟨j,hj⟩:=List.getElem?_of_mem hm
  have:=(List.getElem?_eq_some_iff.1 hj).1
  exact hnot j (by omega) hj
end Go.Proofs.YtlaffgagmncgjabDoor
