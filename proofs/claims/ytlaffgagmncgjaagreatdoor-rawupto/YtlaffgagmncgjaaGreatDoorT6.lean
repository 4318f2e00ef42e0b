import Derived.Test.YtlaffgagmncgjaaGreatDoorT5
set_option maxRecDepth 20000
set_option maxHeartbeats 3200000
namespace Go.Proofs.YtlaffgagmncgjaaGreatDoor
open Tryz Go Go.Pat Go.Proofs
theorem plain103:Plain Tryz.prog 115:=⟨_,func115,by decide +kernel,by rfl⟩
theorem plain104:Plain Tryz.prog 116:=⟨_,func116,by decide +kernel,by rfl⟩
theorem sum_mem_le {l:List Nat} {x:Nat} (h:x∈l):x≤l.sum:=by
 induction l with
 | nil=>cases h
 | cons a l ih =>
  rw [List.sum_cons]
  rcases List.mem_cons.1 h with rfl | h
  ·omega
  ·have:=ih h;omega
theorem splitL_length (c:UInt8) (l:List UInt8):(splitL c l).length≤l.length+1:=by
 induction l with
 | nil=>simp [splitL]
 | cons x r ih =>
  simp only [splitL]
  split
  ·simp;omega
  ·split
   ·rename_i p ps h;rw [h] at ih;simp at ih ⊢;omega
   ·simp
theorem numAcc_bound:∀ (l:List UInt8) (a m k:Nat),numAcc a l=some m→a<10 ^ k→m<10 ^ (k+l.length):=by
 intro l
 induction l with
 | nil=>intro a m k h ha;simp [numAcc] at h;subst h;simpa using ha
 | cons x l ih =>
  intro a m k h ha
  simp only [numAcc] at h
  split at h
  ·cases h
  ·rename_i hx
   have:=ih _ m (k+1) h (numAcc_lt ha (by omega) (by omega))
   rw [List.length_cons,show k+(l.length+1)=k+1+l.length by omega];exact this
theorem numberS_lt {w:List UInt8} {n:Nat} (h:numberS w=some n):n<10000:=by
 unfold numberS at h
 split at h
 ·cases h
 ·rename_i hw
  have h1:=numAcc_bound w 0 n 0 h (by simp)
  have h2:10 ^ (0+w.length)≤10 ^ 4:=Nat.pow_le_pow_right (by omega) (by omega)
  omega
def nameS (w:List UInt8):Option Nat:=match numberS w with
 | some n=>if n=0 then none else some n
 | none=>none
def parseS (s:List UInt8):Option PatchD :=
 if 1400<s.length then none else
 match splitL 10 s with
 | l0::l1::rest =>
  if rest.length<2∨rest.getLast? ≠ some []∨31<rest.length then none else
  match splitL 32 l0 with
  | [h0,h1] =>
   match splitL 32 l1 with
   | n0::ns =>
    if h0≠[112,97,116,99,104]∨n0≠[110,101,101,100,115]∨20<ns.length then none else
    match nameS h1 with
    | none=>none
    | some id=>match allSome nameS ns with
     | none=>none
     | some needs=>match allSome changeS rest.dropLast with
      | none=>none
      | some cs=>some ⟨id,needs,cs⟩
   | []=>none
  | _=>none
 | _=>none
structure RX where
 (i:Nat) (nv:Value) (needs:List Nat)
structure CX where
 (i:Nat) (cv:Value) (cs:List ChangeD)
def readPost (s:List UInt8) (h:Heap) (v:Value) (h':Heap):Prop :=
 Ext h h'∧match parseS s with
  | none=>v = .tuple #[.pointer none,.int .i64 1]
  | some p=>if formedS p then ∃ b,v = .tuple #[.pointer (some ⟨b,0,none⟩),.int .i64 0]∧PA (New h h') h' b p else v = .tuple #[.pointer none,.int .i64 2]
def bad1 (s:List UInt8) (L:List (List UInt8)):Prop:=1400<s.length∨L.length<4∨L.getLast? ≠ some []∨33<L.length
def bad2 (H N:List (List UInt8)):Prop:=H.length≠2∨H[0]? ≠ some [112,97,116,99,104]∨N[0]? ≠ some [110,101,101,100,115]∨21<N.length
theorem parse_bad1 {s:List UInt8} (h:bad1 s (splitL 10 s)):parseS s=none:=by
 unfold parseS
 by_cases h0:1400<s.length
 ·rw [if_pos h0]
 ·rw [if_neg h0]
  rcases h with h | h
  ·omega
  ·split
   ·rename_i l0 l1 rest e
    rw [e] at h
    rw [if_pos]
    simp only [List.length_cons] at h
    cases rest with
    | nil=>left;simp
    | cons a r =>
     rw [List.getLast?_cons_cons,List.getLast?_cons_cons] at h
     rcases h with h | h | h
     ·left;simp at h ⊢;omega
     ·right;left;exact h
     ·right;right;simp at h ⊢;omega
   ·rfl
theorem parse_bad2 {s l0 l1:List UInt8} {rest:List (List UInt8)} (hL:splitL 10 s=l0::l1::rest) (h:bad2 (splitL 32 l0) (splitL 32 l1)):parseS s=none:=by
 unfold parseS
 split
 ·rfl
 ·rw [hL]
  simp only
  split
  ·rfl
  ·split
   ·rename_i h0 h1 e
    split
    ·rename_i n0 ns e'
     rw [e,e'] at h
     rw [if_pos]
     rcases h with h | h | h | h
     ·simp at h
     ·left;simpa using h
     ·right;left;simpa using h
     ·right;right;simp at h;omega
    ·rfl
   ·rfl
theorem parse_good {s l0 l1:List UInt8} {rest:List (List UInt8)} {h1:List UInt8} {ns:List (List UInt8)} (hs:¬ bad1 s (splitL 10 s)) (hL:splitL 10 s=l0::l1::rest) (hH:splitL 32 l0=[[112,97,116,99,104],h1]) (hN:splitL 32 l1=[110,101,101,100,115]::ns) (hn:ns.length≤20) :
  parseS s=match nameS h1 with
    | none=>none
    | some id=>match allSome nameS ns with
     | none=>none
     | some needs=>match allSome changeS rest.dropLast with
      | none=>none
      | some cs=>some ⟨id,needs,cs⟩:=by
 unfold parseS
 have h0:¬ 1400<s.length:=fun e=>hs (.inl e)
 rw [if_neg h0,hL]
 simp only
 have hr:¬ (rest.length<2∨rest.getLast? ≠ some []∨31<rest.length):=fun e=>hs (by
  right
  rw [hL]
  simp only [List.length_cons]
  rcases e with e | e | e
  ·left;omega
  ·right;left
   cases rest with
   | nil=>exact absurd (show ([]:List (List UInt8)).length<2 by simp) (fun e'=>hs (.inr (.inl (by rw [hL];simp))))
   | cons a r=>rw [List.getLast?_cons_cons,List.getLast?_cons_cons];exact e
  ·right;right;omega)
 rw [if_neg hr,hH]
 simp only
 rw [hN]
 simp only
 rw [if_neg (by simp;omega)]
theorem read_ret (s:List UInt8) (h:Heap) (hl:s.length≤16777216):Ret Tryz.prog 72 #[.string (str s)] h (readPost s h):=by
 refine Ret.of_body func72 rfl ntmps72 rfl rfl ?_
 have bad:parseS s=none→∀ (env:Env) (h':Heap) (k:List Item),Ext h h'→Env.get? env 2=some (.pointer none)→Env.get? env 3=some (.int .i64 1)→Runs Tryz.prog 72 152 (readPost s h) (.code .ret::k) env h':=fun hn env h' k hx e1 e2 =>
  Runs.ret func72 (ret2 results72 e1 e2) ⟨hx,by rw [hn]⟩
 refine zgo ?_
 refine WO.call rfl rfl rfl rfl plain101 rfl (split_ret s 10 _ hl) fun v h1 ⟨hx1,ho1,hm1⟩=>?_
 have hlens:=splitL_len 10 s
 have hne:=splitL_ne 10 s
 have hlen:=splitL_length 10 s
 have hbad1:=parse_bad1 (s:=s)
 generalize hL:splitL 10 s=L at *
 obtain ⟨bl,pl,cl,hv,hcl,hcs⟩:=ho1.rd.pos (by cases L with | nil=>exact absurd rfl hne | cons a b=>simp)
 subst hv
 refine zgo ?_
 refine WO.join (fun env' h'=>h1=h'∧∃ b,Sub [(0,.string (str s)),(4,.slice (some ⟨bl,pl,none⟩) L.length cl),(42,.bool b)] env'∧(b=true↔bad1 s L)) ?_ ?_
 ·refine WO.split 23 _ rfl (fun q1=>?_) (fun q1=>?_)
  ·have q1:=of_decide_eq_true q1
   refine zgo ?_
   exact ⟨rfl,_,⟨rfl,rfl,rfl,trivial⟩,⟨fun _=>.inl (by omega),fun _=>rfl⟩⟩
  ·have q1:=of_decide_eq_false q1
   refine zgo ?_
   refine WO.split 28 _ rfl (fun q2=>?_) (fun q2=>?_)
   ·have q2:=of_decide_eq_true q2
    refine zgo ?_
    exact ⟨rfl,_,⟨rfl,rfl,rfl,trivial⟩,⟨fun _=>.inr (.inl (by omega)),fun _=>rfl⟩⟩
   ·have q2:=of_decide_eq_false q2
    have hget:L[L.length-1]? = some (L.getLast hne):=by rw [List.getLast_eq_getElem];exact List.getElem?_eq_getElem _
    have hlast:L.getLast? = some (L.getLast hne):=List.getLast?_eq_some_getLast hne
    generalize L.getLast hne=last at *
    have c1:=hcs _ _ (strs_get hget)
    refine zgo ?_
    refine WO.val (ov_indexAddr (j:=L.length-1) tab_ok rfl rfl rfl rfl rfl (natOf_of (by omega)) (by omega)) rfl rfl rfl ?_
    refine WO.val (ov_load tab_ok rfl rfl rfl rfl (by rw [Nat.mul_one];exact c1)) rfl rfl rfl ?_
    refine zgo ?_
    refine WO.split 37 _ rfl (fun q3=>?_) (fun q3=>?_)
    ·have q3:¬ last=[]:=by simpa using q3
     refine zgo ?_
     exact ⟨rfl,_,⟨rfl,rfl,rfl,trivial⟩,⟨fun _=>.inr (.inr (.inl (by rw [hlast];simpa using q3))),fun _=>rfl⟩⟩
    ·have q3:last=[]:=by simpa using q3
     refine zgo ?_
     refine ⟨rfl,_,⟨rfl,rfl,rfl,trivial⟩,?_⟩
     rw [decide_eq_true_iff]
     unfold bad1
     rw [hlast,q3]
     simp
     omega
 rintro env' _ ⟨rfl,b,hsub,hb⟩
 refine Runs.sub hsub ?_
 cases hbt:b
 ·have hnb1:¬ bad1 s L:=by rw [← hb,hbt];simp
  have hL4:4≤L.length∧L.length≤33∧s.length≤1400:=by
   unfold bad1 at hnb1;omega
  obtain ⟨l0,l1,rest,hLe⟩:∃ l0 l1 rest,L=l0::l1::rest:=by
   match L,hL4.1 with
   | l0::l1::rest,_=>exact ⟨l0,l1,rest,rfl⟩
   | [],e=>simp at e
   | [_],e=>simp at e
  have hlen0:l0.length≤1400∧l1.length≤1400:=by rw [hLe] at hlens;simp at hlens;omega
  have c0:=hcs 0 _ (strs_get (x:=l0) (by rw [hLe];rfl))
  have c1:=hcs 1 _ (strs_get (x:=l1) (by rw [hLe];rfl))
  refine zgo ?_
  refine zb fun h2 hb2 hx2 hs2=>?_
  replace c0:=hx2.xc c0
  replace c1:=hx2.xc c1
  replace hcs:=hx2.xcs hcs
  have hx:=hx1.trans hx2
  refine zgo ?_
  refine WO.call rfl rfl rfl rfl plain101 rfl (split_ret l0 32 _ (by omega)) fun v h3 ⟨hx3,ho3,hm3⟩=>?_
  have hHlen:=splitL_length 32 l0
  have hHl:=splitL_len 32 l0
  have hbad2:=parse_bad2 (hL.trans hLe)
  have hgood:=parse_good (h1:=(splitL 32 l0).getD 1 []) (ns:=(splitL 32 l1).tail) (by rw [hL];exact hnb1) (hL.trans hLe)
  generalize hH:splitL 32 l0=H at *
  obtain ⟨bh,ph,ch,hv,hch,hhs⟩:=ho3.rd.pos (by have:=splitL_ne 32 l0;rw [hH] at this;cases H with | nil=>exact absurd rfl this | cons a b=>simp)
  subst hv
  replace c1:=hx3.xc c1
  replace hcs:=hx3.xcs hcs
  replace hb2:=hb2.ext hx3
  replace hx:=hx.trans hx3
  refine zgo ?_
  refine WO.call rfl rfl rfl rfl plain101 rfl (split_ret l1 32 _ (by omega)) fun v h4 ⟨hx4,ho4,hm4⟩=>?_
  have hNlen:=splitL_length 32 l1
  have hNl:=splitL_len 32 l1
  have hNne:=splitL_ne 32 l1
  generalize hN:splitL 32 l1=N at *
  obtain ⟨bn,pn,cn,hv,hcn,hns⟩:=ho4.rd.pos (by cases N with | nil=>exact absurd rfl hNne | cons a b=>simp)
  subst hv
  replace hhs:=hx4.xcs hhs
  replace hcs:=hx4.xcs hcs
  replace hb2:=hb2.ext hx4
  replace hx:=hx.trans hx4
  have hbl:bl<h1.size:=ho1.lt _ rfl
  have hbn:h1.size<bn:=by
   have e1:=hm4 bn rfl
   have e2:=hx3.size
   have e3:=hx2.size
   simp [Value.ownBlock] at e1
   omega
  have hbp:h1.size<h4.size:=hb2.lt
  clear hx3 hx4 c0 c1 ho1 hm1 ho3 hm3 hm4 hx2
  obtain ⟨n0,ns,hNe⟩:∃ n0 ns,N=n0::ns:=by cases N with | nil=>exact absurd rfl hNne | cons a b=>exact ⟨a,b,rfl⟩
  have d0:=hns 0 _ (strs_get (x:=n0) (by rw [hNe];rfl))
  have hNpos:0<N.length:=by rw [hNe];simp
  refine zgo ?_
  refine WO.join (fun env' h'=>h4=h'∧∃ b,Sub [(4,.slice (some ⟨bl,pl,none⟩) L.length cl),(5,.pointer (some ⟨h1.size,0,none⟩)),(6,.slice (some ⟨bh,ph,none⟩) H.length ch),(7,.slice (some ⟨bn,pn,none⟩) N.length cn),(73,.bool b)] env'∧(b=true↔bad2 H N)) ?_ ?_
  ·refine WO.split 56 _ rfl (fun q1=>?_) (fun q1=>?_)
   ·have q1:¬ (H.length:Int)=2:=by simpa using q1
    refine zgo ?_
    exact ⟨rfl,_,⟨rfl,rfl,rfl,rfl,rfl,trivial⟩,⟨fun _=>.inl (by omega),fun _=>rfl⟩⟩
   ·have q1:(H.length:Int)=2:=by simpa using q1
    obtain ⟨g0,g1,hHe⟩:∃ g0 g1,H=[g0,g1]:=by
     match H,q1 with
     | [g0,g1],_=>exact ⟨g0,g1,rfl⟩
     | [],e=>simp at e
     | [_],e=>simp at e
     | _::_::_::_,e=>simp at e;omega
    have e0:=hhs 0 _ (strs_get (x:=g0) (by rw [hHe];rfl))
    refine zgo ?_
    refine WO.split 62 _ rfl (fun q2=>?_) (fun q2=>?_)
    ·have q2:¬ g0=[112,97,116,99,104]:=by simpa using q2
     refine zgo ?_
     exact ⟨rfl,_,⟨rfl,rfl,rfl,rfl,rfl,trivial⟩,⟨fun _=>.inr (.inl (by rw [hHe];simpa using q2)),fun _=>rfl⟩⟩
    ·have q2:g0=[112,97,116,99,104]:=by simpa using q2
     refine zgo ?_
     refine WO.split 68 _ rfl (fun q3=>?_) (fun q3=>?_)
     ·have q3:¬ n0=[110,101,101,100,115]:=by simpa using q3
      refine zgo ?_
      exact ⟨rfl,_,⟨rfl,rfl,rfl,rfl,rfl,trivial⟩,⟨fun _=>.inr (.inr (.inl (by rw [hNe];simpa using q3))),fun _=>rfl⟩⟩
     ·have q3:n0=[110,101,101,100,115]:=by simpa using q3
      refine zgo ?_
      refine ⟨rfl,_,⟨rfl,rfl,rfl,rfl,rfl,trivial⟩,?_⟩
      rw [decide_eq_true_iff]
      unfold bad2
      rw [hHe,hNe,q2,q3]
      simp
      omega
  rintro env' _ ⟨rfl,b',hsub',hb'⟩
  refine Runs.sub hsub' ?_
  cases hbt':b'
  ·have hnb2:¬ bad2 H N:=by rw [← hb',hbt'];simp
   have hH2:H.length=2∧N.length≤21:=by unfold bad2 at hnb2;omega
   obtain ⟨g0,g1,hHe⟩:∃ g0 g1,H=[g0,g1]:=by
    match H,hH2.1 with
    | [g0,g1],_=>exact ⟨g0,g1,rfl⟩
   have hg0:g0=[112,97,116,99,104]:=by
    have:¬ (H[0]? ≠ some [112,97,116,99,104]):=fun e=>hnb2 (.inr (.inl e))
    rw [hHe] at this;simpa using this
   have hn0:n0=[110,101,101,100,115]:=by
    have:¬ (N[0]? ≠ some [110,101,101,100,115]):=fun e=>hnb2 (.inr (.inr (.inl e)))
    rw [hNe] at this;simpa using this
   replace hgood:=hgood (by rw [hHe,hg0];rfl) (by rw [hNe,hn0];rfl) (by rw [hNe] at hH2 ⊢;simp at hH2 ⊢;omega)
   rw [hHe,hNe] at hgood
   simp only [List.tail_cons] at hgood
   replace hgood:parseS s=match nameS g1 with
     | none=>none
     | some id=>match allSome nameS ns with
      | none=>none
      | some needs=>match allSome changeS rest.dropLast with
       | none=>none
       | some cs=>some ⟨id,needs,cs⟩:=hgood
   have hg1:g1.length≤16777216:=by rw [hHe] at hHl;simp at hHl;omega
   have hnsl:∀ w∈ns,w.length≤16777216:=fun w hw=>by
    rw [hNe] at hNl
    have:=sum_mem_le (l:=(n0::ns).map fun p=>p.length+1) (x:=w.length+1) (by simp;right;exact ⟨w,hw,rfl⟩)
    omega
   have e1:=hhs 1 _ (strs_get (x:=g1) (by rw [hHe];rfl))
   clear hhs hbad2 hbad1 hnb2 hb' hsub'
   refine zgo ?_
   refine WO.call rfl rfl rfl rfl plain102 rfl (number_ret g1 _ hg1) fun v h5 ⟨hv5,hh5⟩=>?_
   subst hv5 hh5
   refine zgo ?_
   rcases hid:numberS g1 with _ | id
   ·refine zgo ?_
    exact bad (by rw [hgood];unfold nameS;rw [hid]) _ _ _ hx rfl rfl
   have hidlt:=numberS_lt hid
   refine zgo ?_
   refine Runs.cond_dec rfl (fun q0=>?_) (fun q0=>?_)
   ·refine zgo ?_
    have e:id=0:=by simpa using q0
    exact bad (by rw [hgood];unfold nameS;rw [hid];simp only;rw [if_pos e]) _ _ _ hx rfl rfl
   have hid0:¬ id=0:=by simpa using q0
   have hnm:nameS g1=some id:=by unfold nameS;rw [hid];simp only;rw [if_neg hid0]
   rw [hnm] at hgood
   simp only at hgood
   refine zgo ?_
   refine zt (one_int _) hb2 fun h6 hb6 hx6 hs6=>?_
   have hns6:Rd h6 1 (.slice (some ⟨bn,pn,none⟩) N.length cn) N.length (strs N):=ho4.rd.fr hx6 (fun k hk=>by simp [Value.ownBlock] at hk;omega)
   replace hcs:=hx6.cells (by omega) hcs
   replace hx:=hx.trans_new (hx6.mono (S':=fun k=>False∨h.size≤k) (by intro k _ e;right;have:=hx1.size;omega))
   clear hb2 ho4
   have hcut:=hns6.cut 1 N.length hNpos (Nat.le_refl _)
   have hcute:((strs N).take (N.length*1)).drop (1*1)=strs ns:=by
    have e:(strs N).length=N.length:=by simp [strs]
    rw [Nat.mul_one,List.take_of_length_le (by omega),hNe];rfl
   rw [hcute] at hcut
   have hnsN:N.length-1=ns.length:=by rw [hNe];simp
   have hns20:ns.length≤20:=by omega
   refine zgo ?_
   refine WO.val (ov_slice_lo (i:=1) tab_ok rfl rfl rfl rfl rfl (natOf_of rfl) (by omega)) rfl rfl rfl ?_
   have hadab:(if cn=1 then (⟨bn,pn,none⟩:Addr) else ⟨bn,pn+1*1,none⟩).block=bn:=by split<;>rfl
   generalize (if cn=1 then (⟨bn,pn,none⟩:Addr) else ⟨bn,pn+1*1,none⟩)=ada at *
   rw [hnsN] at *
   refine zgo ?_
   refine Runs.loop (X:=RX) (fun x=>[(4,.slice (some ⟨bl,pl,none⟩) L.length cl),(5,.pointer (some ⟨h1.size,0,none⟩)),(92,.slice (some ada) ns.length (cn-1)),(93,.int .i64 (ns.length:Int)),(94,.int .i64 (x.i:Int))])
    (fun x h'=>x.i≤ns.length∧allSome nameS (ns.take x.i)=some x.needs∧Fr (fun k=>k=h1.size) h6 h'∧Blk h' h1.size [.int .i64 (id:Int),x.nv,.slice none 0 0] 81∧Own h' 3 1 x.nv x.needs.length (ints x.needs)∧∀ k,x.nv.ownBlock=some k→h6.size≤k)
    (fun x=>ns.length-x.i) ⟨0,.slice none 0 0,[]⟩ ⟨rfl,rfl,rfl,rfl,rfl,trivial⟩ ⟨Nat.zero_le _,rfl,Fr.refl _ _,hb6,Own.nil _ _ _,fun k hk=>by simp [Value.ownBlock] at hk⟩ ?_
   rintro ⟨i,nv,needs⟩ h7 ⟨hi,hsome,hx7,hb7,ho7,hm7⟩ ih
   dsimp only at hi hsome hx7 hb7 ho7 hm7 ih ⊢
   have hnl:=allSome_length _ hsome
   have hnl':(ns.take i).length≤i:=by simp;omega
   refine zgo ?_
   refine Runs.cond_dec rfl (fun hlt=>?_) (fun hge=>?_)
   ·have hlt':i<ns.length:=by omega
    have hget:ns[i]? = some ns[i]:=List.getElem?_eq_getElem hlt'
    have hmem:ns[i]∈ns:=List.getElem_mem hlt'
    have hsn:∀ m,nameS ns[i]=some m→allSome nameS (ns.take (i+1))=some (needs++[m]):=fun m hm=>by
     rw [List.take_succ_eq_append_getElem hlt'];exact allSome_snoc _ _ _ hsome hm
    generalize ns[i]=wd at *
    obtain ⟨ba,pa,ca,hv,_,hcell⟩:=(hcut.fr hx7 (fun k hk=>by
     simp only [Value.ownBlock] at hk
     cases hk
     have:=hadab
     omega)).cell (strs_get hget)
    cases hv
    have f1:=hb7.cell (j:=1) rfl
    refine zgo ?_
    refine WO.call rfl rfl rfl rfl plain102 rfl (number_ret wd _ (hnsl wd hmem)) fun v h8 ⟨hv8,hh8⟩=>?_
    subst hv8 hh8
    refine zgo ?_
    rcases hm:numberS wd with _ | m
    ·refine zgo ?_
     refine bad ?_ _ _ _ (hx.trans_new (hx7.mono (by intro k _ e;right;have:=hx1.size;omega))) rfl rfl
     rw [hgood,allSome_none nameS hmem (by unfold nameS;rw [hm])]
    have hmlt:=numberS_lt hm
    refine zgo ?_
    refine Runs.cond_dec rfl (fun q0=>?_) (fun q0=>?_)
    ·refine zgo ?_
     have e:m=0:=by simpa using q0
     refine bad ?_ _ _ _ (hx.trans_new (hx7.mono (by intro k _ e;right;have:=hx1.size;omega))) rfl rfl
     rw [hgood,allSome_none nameS hmem (by unfold nameS;rw [hm];simp only;rw [if_pos e])]
    have hm0:¬ m=0:=by simpa using q0
    have hnm':nameS wd=some m:=by unfold nameS;rw [hm];simp only;rw [if_neg hm0]
    refine zgo ?_
    refine zh (one_int _) ho7 ?_
    intro v' h9 o1 o2 o3
    have hb9:=hb7.fr o2 (fun e=>by have:=hm7 _ e;omega)
    obtain ⟨ad',cap',hv'⟩:=o1.rd.form
    subst hv'
    refine zgo ?_
    refine zt (one_slice _ _ _) hb9 fun h10 hb10 hx10 hs10=>?_
    refine zgo ?_
    have hsz7:=hx7.size
    refine ih ⟨i+1,_,needs++[m]⟩ _ _ (by dsimp only;omega) ⟨rfl,rfl,rfl,rfl,rfl,trivial⟩ ⟨hlt',hsn m hnm',?_,hb10,?_,?_⟩
    ·exact hx7.trans_new ((o2.mono (fun k _ e=>.inr (hm7 k e))).trans (hx10.mono (fun k _ e=>.inl e)))
    ·have:=o1.fr hx10 (fun k hk=>?_)
     ·simpa [ints] using this
     ·rcases o3 k hk with e | e
      ·have:=hm7 k e;omega
      ·omega
    ·intro k hk
     rcases o3 k hk with e | e
     ·exact hm7 k e
     ·omega
   ·have hsz7:=hx7.size
    have hfull:allSome nameS ns=some needs:=by rw [List.take_of_length_le (by omega)] at hsome;exact hsome
    rw [hfull] at hgood
    simp only at hgood
    replace hcs:=hx7.cells (by omega) hcs
    replace hx:=hx.trans_new (hx7.mono (S':=fun k=>False∨h.size≤k) (by intro k _ e;right;have:=hx1.size;omega))
    have hnv:∃ adn capn,nv = .slice adn needs.length capn:=ho7.rd.form
    obtain ⟨adn,capn,rfl⟩:=hnv
    have hrd7:Rd h7 1 (.slice (some ⟨bl,pl,none⟩) L.length cl) L.length (strs L):=⟨by simp [strs],.inr ⟨_,_,_,rfl,hcl,hcs⟩⟩
    have hcutL:=hrd7.cut 2 (L.length-1) (by omega) (by omega)
    have hrest:rest≠[]:=by intro e;rw [e] at hLe;rw [hLe] at hL4;simp at hL4
    have hcutLe:((strs L).take ((L.length-1)*1)).drop (2*1)=strs rest.dropLast:=by
     have e:(strs L).take ((L.length-1)*1)=strs L.dropLast:=by
      rw [Nat.mul_one,List.dropLast_eq_take];simp [strs]
     rw [e,hLe,List.dropLast_cons_of_ne_nil (by simp),List.dropLast_cons_of_ne_nil hrest]
     rfl
    rw [hcutLe] at hcutL
    have hrl:L.length-1-2=rest.dropLast.length:=by rw [hLe];simp
    have hrl2:∀ w∈rest.dropLast,w.length≤16777216:=fun w hw=>by
     have:=sum_mem_le (l:=L.map fun p=>p.length+1) (x:=w.length+1) (by rw [hLe];simp;right;right;exact ⟨w,List.dropLast_subset _ hw,rfl⟩)
     omega
    generalize hR:rest.dropLast=R at *
    have hR30:R.length≤30:=by omega
    clear ih
    refine zgo ?_
    refine WO.val (ov_slice_lohi (i:=2) (j:=L.length-1) tab_ok rfl rfl rfl rfl rfl rfl (natOf_of rfl) (natOf_of (by omega)) (by omega) (by omega)) rfl rfl rfl ?_
    have hadlb:(if cl=2 then (⟨bl,pl,none⟩:Addr) else ⟨bl,pl+2*1,none⟩).block=bl:=by split<;>rfl
    generalize (if cl=2 then (⟨bl,pl,none⟩:Addr) else ⟨bl,pl+2*1,none⟩)=adl at *
    rw [hrl] at *
    refine zgo ?_
    refine Runs.loop (X:=CX) (fun x=>[(5,.pointer (some ⟨h1.size,0,none⟩)),(124,.slice (some adl) R.length (cl-2)),(125,.int .i64 (R.length:Int)),(126,.int .i64 (x.i:Int))])
     (fun x h'=>x.i≤R.length∧allSome changeS (R.take x.i)=some x.cs∧Fr (fun k=>k=h1.size) h7 h'∧Blk h' h1.size [.int .i64 (id:Int),.slice adn needs.length capn,x.cv] 81∧Own h' 107 6 x.cv x.cs.length (changes x.cs)∧∀ k,x.cv.ownBlock=some k→h7.size≤k)
     (fun x=>R.length-x.i) ⟨0,.slice none 0 0,[]⟩ ⟨rfl,rfl,rfl,rfl,trivial⟩ ⟨Nat.zero_le _,rfl,Fr.refl _ _,hb7,Own.nil _ _ _,fun k hk=>by simp [Value.ownBlock] at hk⟩ ?_
    rintro ⟨i,cv,cs⟩ h11 ⟨hi',hsome',hx11,hb11,ho11,hm11⟩ ih
    dsimp only at hi' hsome' hx11 hb11 ho11 hm11 ih ⊢
    have hnl2:=allSome_length _ hsome'
    have hnl2':(R.take i).length≤i:=by simp;omega
    refine zgo ?_
    refine Runs.cond_dec rfl (fun hlt=>?_) (fun hge'=>?_)
    ·have hlt':i<R.length:=by omega
     have hget:R[i]? = some R[i]:=List.getElem?_eq_getElem hlt'
     have hmem:R[i]∈R:=List.getElem_mem hlt'
     have hsn:∀ m,changeS R[i]=some m→allSome changeS (R.take (i+1))=some (cs++[m]):=fun m hm=>by
      rw [List.take_succ_eq_append_getElem hlt'];exact allSome_snoc _ _ _ hsome' hm
     generalize R[i]=wd at *
     obtain ⟨ba,pa,ca,hv,_,hcell⟩:=(hcutL.fr hx11 (fun k hk=>by
      simp only [Value.ownBlock] at hk
      cases hk
      have:=hadlb
      omega)).cell (strs_get hget)
     cases hv
     refine zgo ?_
     refine WO.call rfl rfl rfl rfl plain103 rfl (change_ret wd _ (hrl2 wd hmem)) fun v h12 ⟨hx12,c,hv12,hc12⟩=>?_
     subst hv12
     refine zgo ?_
     refine zv c.one fun h13 hb13 hx13 hs13=>?_
     have hx14:=hx12.trans hx13
     rcases hm:changeS wd with _ | m
     ·refine zgo ?_
      refine bad ?_ _ _ _ ((hx.trans_new (hx11.mono (by intro k _ e;right;have:=hx1.size;omega))).trans hx14) rfl rfl
      rw [hgood,allSome_none changeS hmem hm]
     have hcm:=hc12 m hm
     subst hcm
     have ho11':∀ k,cv.ownBlock=some k→k<h11.size:=ho11.lt
     replace hb11:=hb11.ext hx14
     replace ho11:=ho11.fr hx14 (by simp)
     refine zgo ?_
     have f2:=hb11.cell (j:=2) rfl
     have hsz11:=hx11.size
     have hsz12:=hx12.size
     refine Runs.drawn (m:=11) (fun h'=>cellAt h' h1.size 2=some cv∧Cells h' h12.size 0 c.cells) (fun i=>Nat.beq i 10) mixed rfl ?_
     refine WF.take 0 rfl (fun _ _=>ov_pv tab_ok rfl) ⟨f2,hb13.cells⟩ rfl rfl rfl (by kernel_rfl) ?_
     refine WF.take 1 rfl (fun _ _=>ov_pv tab_ok rfl) ⟨f2,hb13.cells⟩ rfl rfl rfl (by kernel_rfl) ?_
     refine WF.take 2 rfl (fun _ _=>ov_pv tab_ok rfl) ⟨f2,hb13.cells⟩ rfl rfl rfl (by kernel_rfl) ?_
     refine WF.take 3 rfl (fun _ _=>ov_pv tab_ok rfl) ⟨f2,hb13.cells⟩ rfl rfl rfl (by kernel_rfl) ?_
     refine zl 4 (fun _ hS=>hS.1) ⟨f2,hb13.cells⟩ ?_
     refine zL 5 (fun _ hS=>hS.2) ⟨f2,hb13.cells⟩ ?_
     have hSS:∀ h',Fr (fun k=>cv.ownBlock=some k) h13 h'→cellAt h' h1.size 2=some cv∧Cells h' h12.size 0 c.cells:=fun h' hf=>⟨hf.cell (fun e=>by have:=hm11 _ e;omega) f2,hf.cells (fun e=>by have:=ho11' _ e;omega) hb13.cells⟩
     refine WF.push 6 7 tab_ok (by kernel_rfl) (by kernel_rfl) rfl rfl rfl rfl rfl rfl rfl rfl rfl rfl rfl rfl rfl rfl rfl rfl rfl rfl rfl (by simp) c.one ho11 (by omega) hSS ?_
     intro v' h15 o1 o2 o3
     have hb15:=hb11.fr o2 (fun e=>by have:=hm11 _ e;omega)
     obtain ⟨ad',cap',hv'⟩:=o1.rd.form
     subst hv'
     refine zx 8 ((hSS _ o2)) ?_
     refine zx 9 ((hSS _ o2)) ?_
     refine WF.put 10 tab_ok (by kernel_rfl) rfl rfl rfl rfl rfl rfl rfl rfl rfl (one_slice _ _ _) hb15 rfl rfl fun h16 hb16 hx16 hs16=>?_
     refine zd ?_
     refine zgo ?_
     refine ih ⟨i+1,_,cs++[c]⟩ _ _ (by dsimp only;omega) ⟨rfl,rfl,rfl,rfl,trivial⟩ ⟨hlt',hsn c hm,?_,hb16,?_,?_⟩
     ·exact (hx11.trans (hx14.mono (fun _ _ e=>e.elim))).trans_new ((o2.mono (fun k _ e=>.inr (hm11 k e))).trans (hx16.mono (fun k _ e=>.inl e)))
     ·have:=o1.fr hx16 (fun k hk=>?_)
      ·simpa [changes] using this
      ·rcases o3 k hk with e | e
       ·have:=hm11 k e;omega
       ·omega
     ·intro k hk
      rcases o3 k hk with e | e
      ·exact hm11 k e
      ·omega
    ·have hfull':allSome changeS R=some cs:=by rw [List.take_of_length_le (by omega)] at hsome';exact hsome'
     rw [hfull'] at hgood
     simp only at hgood
     have hcv:∃ adc capc,cv = .slice adc cs.length capc:=ho11.rd.form
     obtain ⟨adc,capc,rfl⟩:=hcv
     have ho7':=ho7.fr hx11 (fun k hk=>by have:=hm7 k hk;omega)
     have hpa:PA (New h h11) h11 h1.size ⟨id,needs,cs⟩:=⟨_,_,hb11.cells,ho7'.rd,ho11.rd,⟨hx1.size,hb11.lt⟩,fun k hk=>⟨by have:=hm7 k hk;have:=hx1.size;omega,ho7'.lt k hk⟩,fun k hk=>⟨by have:=hm11 k hk;have:=hx1.size;omega,ho11.lt k hk⟩⟩
     replace hx:=hx.trans_new (hx11.mono (S':=fun k=>False∨h.size≤k) (by intro k _ e;right;have:=hx1.size;omega))
     refine zgo ?_
     refine WO.call rfl rfl rfl rfl plain104 rfl (formed_ret ⟨id,needs,cs⟩ h1.size _ hpa (by dsimp only;omega) (by dsimp only;omega)) fun v h12 ⟨hx12,hv12⟩=>?_
     subst hv12
     cases hf:formedS ⟨id,needs,cs⟩
     ·refine zgo ?_
      refine Runs.ret func72 (ret2 results72 rfl rfl) ⟨hx.trans hx12,?_⟩
      rw [hgood]
      simp only [hf,Bool.false_eq_true,if_false]
     ·refine zgo ?_
      refine Runs.ret func72 (ret2 results72 rfl rfl) ⟨hx.trans hx12,?_⟩
      rw [hgood]
      simp only [hf,if_true]
      exact ⟨_,rfl,(hpa.ext hx12).mono fun k e=>e.up hx12⟩
  ·refine zgo ?_
   exact bad (hbad2 (hb'.1 hbt')) _ _ _ hx rfl rfl
 ·refine zgo ?_
  exact bad (hbad1 (hb.1 hbt)) _ _ _ hx1 rfl rfl
theorem plain87:Plain Tryz.prog 92:=⟨_,func92,by decide +kernel,by rfl⟩
theorem plain88:Plain Tryz.prog 93:=⟨_,func93,by decide +kernel,by rfl⟩
def decF:Nat→Nat→List UInt8
 | 0,n=>[UInt8.ofNat (48+n)]
 | f+1,n=>if n<10 then [UInt8.ofNat (48+n)] else decF f (n / 10)++[UInt8.ofNat (48+n % 10)]
theorem decF_same:∀ (f g n:Nat),n≤f→n≤g→decF f n=decF g n
 | 0,0,_,_,_=>rfl
 | 0,g+1,n,h,_=>by
  obtain rfl:n=0:=by omega
  rfl
 | f+1,0,n,_,h=>by
  obtain rfl:n=0:=by omega
  rfl
 | f+1,g+1,n,h1,h2=>by
  by_cases h:n<10
  ·rw [decF,decF,if_pos h,if_pos h]
  ·rw [decF,decF,if_neg h,if_neg h,decF_same f g (n / 10) (by omega) (by omega)]
def decS (n:Nat):List UInt8:=decF n n
theorem decS_small {n:Nat} (h:n<10):decS n=[UInt8.ofNat (48+n)]:=by
 cases n with
 | zero=>rfl
 | succ m=>rw [decS,decF,if_pos h]
theorem decS_big {n:Nat} (h:¬ n<10):decS n=decS (n / 10)++[UInt8.ofNat (48+n % 10)]:=by
 cases n with
 | zero=>omega
 | succ m=>rw [decS,decF,if_neg h,decS,decF_same m ((m+1) / 10) ((m+1) / 10) (by omega) (by omega)]
theorem decS_len:∀ (k n:Nat),n<10 ^ (k+1)→(decS n).length≤k+1:=by
 intro k
 induction k with
 | zero=>intro n h;rw [decS_small (by simpa using h)];simp
 | succ k ih =>
  intro n h
  by_cases h10:n<10
  ·rw [decS_small h10];simp
  ·rw [decS_big h10]
   have:=ih (n / 10) (by rw [Nat.pow_succ] at h;omega)
   simp;omega
theorem decimal_ret (n:Nat) (h:Heap) (hn:n<1000000):Ret Tryz.prog 92 #[.int .i64 (n:Int)] h fun v h'=>Ext h h'∧v = .string (str (decS n)):=by
 induction n using Nat.strongRecOn generalizing h with
 | _ n ihn =>
 refine Ret.of_body func92 rfl ntmps92 rfl rfl ?_
 refine zgo ?_
 refine WO.val (ov_rem rfl rfl rfl (by omega) (by omega)) rfl rfl rfl ?_
 refine WO.val (ov_add rfl rfl rfl (in_i64 (by omega) (by omega))) rfl rfl rfl ?_
 refine WO.val (ov_conv tab_ok rfl rfl rfl rfl (in_u8 (by omega) (by omega))) rfl rfl rfl ?_
 refine WO.ex rfl rfl rfl (ox_build1 tab_ok rfl rfl rfl rfl rfl rfl rfl rfl ?_)
 have hdig:(UInt8.ofNat (48+n % 10)).toNat=48+n % 10:=by rw [UInt8.toNat_ofNat'];omega
 refine WO.val (ov_bstr (l:=[UInt8.ofNat (48+n % 10)]) tab_ok rfl rfl rfl rfl rfl ?_) rfl rfl rfl ?_
 ·have hc:=cells_push_new (h:=h) [Value.int .u8 (48+(n:Int) % 10)] 5 (0,0)
  have e:(([UInt8.ofNat (48+n % 10)]:List UInt8).map fun (q:UInt8)=>Value.int .u8 (q.toNat:Int))=[Value.int .u8 (48+(n:Int) % 10)]:=by
   simp only [List.map_cons,List.map_nil,hdig]
   congr 2
  rw [e]
  exact hc
 generalize hh1:(h.push (.cells ([Value.int .u8 (48+(n:Int) % 10)]:List Value).toArray 5 (0,0)))=h1
 have hx1:Ext h h1:=by rw [← hh1];exact Fr.push _ _ _
 clear hh1
 refine zgo ?_
 refine Runs.cond_dec rfl (fun q1=>?_) (fun q1=>?_)
 ·refine zgo ?_
  refine Runs.ret func92 (ret1 results92 rfl) ⟨hx1,?_⟩
  rw [decS_small (by omega),Nat.mod_eq_of_lt (by omega)]
 ·have hlen:=decS_len 5 (n / 10) (by omega)
  refine zgo ?_
  refine WO.val (ov_quo rfl rfl rfl (by omega) (by omega) (in_i64 (by omega) (by omega))) rfl rfl rfl ?_
  refine WO.call rfl rfl rfl rfl plain87 rfl (ihn (n / 10) (by omega) _ (by omega)) fun v h2 ⟨hx2,hv2⟩=>?_
  subst hv2
  refine zgo ?_
  refine Runs.ret func92 (ret1 results92 rfl) ⟨hx1.trans hx2,?_⟩
  rw [decS_big (n:=n) (by omega)]
def refS (r:RefD):List UInt8:=if 0<r.p then decS r.p++[46]++decS r.i else if r.i=0 then [94] else [36]
theorem name_ret (r:RefD) (h:Heap) (hp:r.p<1000000) (hi:r.i<1000000) (he:r.p=0→r.i<2):Ret Tryz.prog 93 #[.agg r.cells.toArray] h fun v h'=>Ext h h'∧v = .string (str (refS r)):=by
 refine Ret.of_body func93 rfl ntmps93 rfl rfl ?_
 refine zgo ?_
 refine zb fun h1 hb1 hx1 hs1=>?_
 have g0:=hb1.cell (j:=0) rfl
 have g1:=hb1.cell (j:=1) rfl
 refine zgo ?_
 refine Runs.cond_dec rfl (fun q1=>?_) (fun q1=>?_)
 ·have hl0:=decS_len 5 r.p (by omega)
  have hl1:=decS_len 5 r.i (by omega)
  refine zgo ?_
  refine Runs.drawn (m:=9) (Ext h1) (fun _=>false) mixed rfl ?_
  refine zp 0 (Fr.refl _ _) ?_
  refine zl 1 (fun _ hS=>(hS.xc g0)) (Fr.refl _ _) ?_
  refine zp 4 (Fr.refl _ _) ?_
  refine zl 5 (fun _ hS=>(hS.xc g1)) (Fr.refl _ _) ?_
  refine WF.call 2 (by kernel_rfl) rfl rfl rfl rfl rfl plain87 rfl (decimal_ret r.p _ hp) fun v h2 ⟨hx2,hv2⟩=>⟨.inr hx2,?_⟩
  subst hv2
  refine WF.take 3 rfl (fun _ _=>ov_sadd rfl rfl rfl (by simp<;>omega)) hx2 rfl rfl rfl (by kernel_rfl) ?_
  refine WF.call 6 (by kernel_rfl) rfl rfl rfl rfl rfl plain87 rfl (decimal_ret r.i _ hi) fun v h3 ⟨hx3,hv3⟩=>⟨.inr (hx2.trans hx3),?_⟩
  subst hv3
  refine WF.ex 7 (by kernel_rfl) rfl rfl rfl rfl ((ov_sadd rfl rfl rfl (by simp<;>omega)).ex ⟨.inr (hx2.trans hx3),?_⟩)
  refine zx 8 ((hx2.trans hx3)) ?_
  refine zd ?_
  refine zgo ?_
  refine Runs.ret func93 (ret1 results93 rfl) ⟨hx1.trans (hx2.trans hx3),?_⟩
  unfold refS;rw [if_pos (by omega)]
 ·refine zgo ?_
  refine WO.lit [.string (str [94]),.string (str [36])] tab_ok rfl rfl rfl rfl rfl rfl rfl rfl rfl rfl rfl rfl fun h2 hb2 hx2 hs2=>?_
  have hc2:=hb2.cells
  replace g1:=hx2.xc g1
  have h0:r.p=0:=by omega
  have hi2:=he h0
  obtain ⟨u,hu,hu2⟩:∃ u,([[94],[36]]:List (List UInt8))[r.i]? = some u∧refS r=u:=by
   unfold refS
   rw [if_neg (by omega)]
   match hr:r.i,hi2 with
   | 0,_=>exact ⟨_,rfl,by simp⟩
   | 1,_=>exact ⟨_,rfl,by simp⟩
  have c1:cellAt h2 h1.size (0+r.i*1)=some (.string (str u)):=by rw [Nat.mul_one];exact hc2 r.i (.string (str u)) (strs_get (l:=[[94],[36]]) hu)
  refine zgo ?_
  refine Runs.ret func93 (ret1 results93 rfl) ⟨hx1.trans hx2,by rw [hu2]⟩
theorem plain63:Plain Tryz.prog 56:=⟨_,func56,by decide +kernel,by rfl⟩
def RefD.ok (r:RefD):Prop:=r.p<10000∧r.i<10000∧(r.p=0→r.i<2)
structure ChangeD.ok (c:ChangeD):Prop where
 up:RefD.ok c.up
 down:RefD.ok c.down
 text:c.text.length≤12
structure PatchD.ok (p:PatchD):Prop where
 id:p.id<10000
 needs:∀ n∈p.needs,n<10000
 changes:∀ c∈p.changes,ChangeD.ok c
 len:p.changes.length≤30
 nlen:p.needs.length≤20
def chS (c:ChangeD):List UInt8 :=
 if c.kind=1 then [97,100,100,32]++refS c.up++[32]++refS c.down++[32]++c.text++[10]
 else if c.kind=2 then [100,101,108,32]++refS c.up++[10]
 else [116,105,101,32]++refS c.up++[32]++refS c.down++[10]
def headS (p:PatchD):List UInt8:=[112,97,116,99,104,32]++decS p.id++[10,110,101,101,100,115]
def needsS (l:List Nat):List UInt8:=l.flatMap fun n=>[32]++decS n
def textS (p:PatchD):List UInt8:=headS p++needsS p.needs++[10]++p.changes.flatMap chS
theorem refS_len {r:RefD} (h:RefD.ok r):(refS r).length≤13:=by
 have h1:=decS_len 5 r.p (by have:=h.1;omega)
 have h2:=decS_len 5 r.i (by have:=h.2.1;omega)
 unfold refS
 split
 ·simp;omega
 ·split<;>simp
theorem chS_len {c:ChangeD} (h:ChangeD.ok c):(chS c).length≤60:=by
 have h1:=refS_len h.up
 have h2:=refS_len h.down
 have h3:=h.text
 unfold chS
 split
 ·simp;omega
 ·split
  ·simp;omega
  ·simp;omega
theorem text_ret {F:Nat→Prop} (p:PatchD) (b:Nat) (h:Heap) (hp:PA F h b p) (hok:PatchD.ok p):Ret Tryz.prog 56 #[.pointer (some ⟨b,0,none⟩)] h fun v h'=>Ext h h'∧v = .string (str (textS p)):=by
 refine Ret.of_body func56 rfl ntmps56 rfl rfl ?_
 have hl:=hok.len
 have hl2:=hok.nlen
 have hidl:=hok.id
 obtain ⟨nv,cv,hc,hn,hcs,_⟩:=hp
 have f0:=hc.head
 have f1:=hc.tail.head
 have f2:=hc.tail.tail.head
 obtain ⟨ad,cap,hcv,hcap⟩:=hcs.formc
 obtain ⟨nad,ncap,hnv⟩:=hn.form
 subst hcv hnv
 have hdl:=decS_len 5 p.id (by omega)
 refine zgo ?_
 refine WO.call rfl rfl rfl rfl plain87 rfl (decimal_ret p.id _ (by omega)) fun v h1 ⟨hx1,hv1⟩=>?_
 subst hv1
 replace f0:=hx1.xc f0
 replace f1:=hx1.xc f1
 replace f2:=hx1.xc f2
 replace hn:=hn.ext hx1
 replace hcs:=hcs.ext hx1
 refine zgo ?_
 refine Runs.loop (X:=Nat) (fun i=>[(0,.pointer (some ⟨b,0,none⟩)),(3,.string (str (headS p++needsS (p.needs.take i)))),(18,.slice nad p.needs.length ncap),(19,.int .i64 (p.needs.length:Int)),(20,.int .i64 (i:Int))])
  (fun i h'=>Ext h1 h'∧i≤p.needs.length∧(headS p++needsS (p.needs.take i)).length≤30+10*i) (fun i=>p.needs.length-i) 0 ⟨rfl,by rw [List.take_zero,needsS,List.flatMap_nil,List.append_nil];rfl,rfl,rfl,rfl,trivial⟩ ⟨Fr.refl _ _,Nat.zero_le _,by simp [needsS,headS];omega⟩ ?_
 rintro i h2 ⟨hx2,hi,htl⟩ ih
 refine zgo ?_
 refine Runs.cond_dec rfl (fun hlt=>?_) (fun hge=>?_)
 ·have hlt':i<p.needs.length:=by omega
  have hget:p.needs[i]? = some p.needs[i]:=List.getElem?_eq_getElem hlt'
  have hyl:p.needs[i]<10000:=hok.needs _ (List.getElem_mem hlt')
  have hsn:headS p++needsS (p.needs.take (i+1))=headS p++needsS (p.needs.take i)++([32]++decS p.needs[i]):=by
   rw [List.take_succ_eq_append_getElem hlt'];simp only [needsS,List.flatMap_append,List.flatMap_cons,List.flatMap_nil,List.append_nil,List.append_assoc]
  generalize p.needs[i]=y at *
  generalize headS p++needsS (p.needs.take i)=t at *
  obtain ⟨b0,p0,cap0,hv,_,hcell⟩:=(hn.ext hx2).cell (ints_get hget)
  cases hv
  have hdy:=decS_len 5 y (by omega)
  refine zgo ?_
  refine WO.call rfl rfl rfl rfl plain87 rfl (decimal_ret y _ (by omega)) fun v h3 ⟨hx3,hv3⟩=>?_
  subst hv3
  refine zgo ?_
  refine ih (i+1) _ _ (by omega) ⟨rfl,by rw [hsn];rfl,rfl,rfl,rfl,trivial⟩ ⟨hx2.trans hx3,by omega,by rw [hsn];simp at hdy htl ⊢;omega⟩
 ·have hie:i=p.needs.length:=by omega
  subst hie
  rw [List.take_length] at htl ⊢
  replace f2:=hx2.xc f2
  replace hcs:=hcs.ext hx2
  replace hx2:=hx1.trans hx2
  have hts:textS p=headS p++needsS p.needs++[10]++p.changes.flatMap chS:=rfl
  generalize headS p++needsS p.needs=t0 at *
  clear ih hn f0 f1 hc
  refine zgo ?_
  refine Runs.loop (X:=Nat) (fun i=>[(0,.pointer (some ⟨b,0,none⟩)),(3,.string (str (t0++[10]++(p.changes.take i).flatMap chS))),(35,.slice ad p.changes.length cap),(36,.int .i64 (p.changes.length:Int)),(37,.int .i64 (i:Int))])
   (fun i h'=>Ext h2 h'∧i≤p.changes.length∧(t0++[10]++(p.changes.take i).flatMap chS).length≤300+60*i) (fun i=>p.changes.length-i) 0 ⟨rfl,by rw [List.take_zero,List.flatMap_nil,List.append_nil];rfl,rfl,rfl,rfl,trivial⟩ ⟨Fr.refl _ _,Nat.zero_le _,by simp;omega⟩ ?_
  rintro i h3 ⟨hx3,hi',htl3⟩ ih
  refine zgo ?_
  refine Runs.cond_dec rfl (fun hlt=>?_) (fun hge'=>?_)
  ·have hlt':i<p.changes.length:=by omega
   have hget:p.changes[i]? = some p.changes[i]:=List.getElem?_eq_getElem hlt'
   have hcok:ChangeD.ok p.changes[i]:=hok.changes _ (List.getElem_mem hlt')
   have hsn:t0++[10]++(p.changes.take (i+1)).flatMap chS=t0++[10]++(p.changes.take i).flatMap chS++chS p.changes[i]:=by
    rw [List.take_succ_eq_append_getElem hlt'];simp only [List.flatMap_append,List.flatMap_cons,List.flatMap_nil,List.append_nil,List.append_assoc]
   generalize p.changes[i]=c at *
   generalize t0++[10]++(p.changes.take i).flatMap chS=t at *
   obtain ⟨b0,p0,cap0,hv,_,hcells⟩:=(hcs.ext hx3).pos (by omega)
   cases hv
   have hcc:=changes_get hcells hget
   have hchl:=chS_len hcok
   have hr1:=refS_len hcok.up
   have hr2:=refS_len hcok.down
   have htx:=hcok.text
   obtain ⟨u1,u2,u3⟩:=hcok.up
   obtain ⟨d1,d2,d3⟩:=hcok.down
   refine zgo ?_
   refine zv c.one fun h4 hb4 hx4 hs4=>?_
   have g0:=hb4.cell (j:=0) rfl
   have g5:=hb4.cell (j:=5) rfl
   have e1:Cells h4 h3.size (0+1) c.up.cells:=hb4.cells.tail.take 2
   have e2:Cells h4 h3.size (0+3) c.down.cells:=hb4.cells.tail.tail.tail.take 2
   have hx5:=hx3.trans hx4
   have fin:∀ h',Ext h4 h'→(Ext h2 h'∧i+1≤p.changes.length∧(t0++[10]++(p.changes.take (i+1)).flatMap chS).length≤300+60*(i+1)):=fun h' hx=>⟨hx5.trans hx,hlt',by rw [hsn,List.length_append];omega⟩
   refine zgo ?_
   refine Runs.cond_dec rfl (fun q1=>?_) (fun q1=>?_)
   ·have hch:chS c=[97,100,100,32]++refS c.up++[32]++refS c.down++[32]++c.text++[10]:=by unfold chS;rw [if_pos (by omega)]
    refine zgo ?_
    refine Runs.drawn (m:=17) (Ext h4) (fun _=>false) mixed rfl ?_
    refine zp 0 (Fr.refl _ _) ?_
    refine zp 1 (Fr.refl _ _) ?_
    refine zL 2 (fun _ hS=>(hS.xcs e1)) (Fr.refl _ _) ?_
    refine zp 6 (Fr.refl _ _) ?_
    refine zL 7 (fun _ hS=>(hS.xcs e2)) (Fr.refl _ _) ?_
    refine zp 11 (Fr.refl _ _) ?_
    refine zl 12 (fun _ hS=>(hS.xc g5)) (Fr.refl _ _) ?_
    refine WF.call 3 (by kernel_rfl) rfl rfl rfl rfl rfl plain88 rfl (name_ret c.up _ (by omega) (by omega) u3) fun v h6 ⟨hx6,hv6⟩=>⟨.inr hx6,?_⟩
    subst hv6
    refine WF.take 4 rfl (fun _ _=>ov_sadd rfl rfl rfl (by simp<;>omega)) hx6 rfl rfl rfl (by kernel_rfl) ?_
    refine WF.take 5 rfl (fun _ _=>ov_sadd rfl rfl rfl (by simp<;>omega)) hx6 rfl rfl rfl (by kernel_rfl) ?_
    refine WF.call 8 (by kernel_rfl) rfl rfl rfl rfl rfl plain88 rfl (name_ret c.down _ (by omega) (by omega) d3) fun v h7 ⟨hx7,hv7⟩=>⟨.inr (hx6.trans hx7),?_⟩
    subst hv7
    have hx8:=hx6.trans hx7
    refine WF.take 9 rfl (fun _ _=>ov_sadd rfl rfl rfl (by simp<;>omega)) hx8 rfl rfl rfl (by kernel_rfl) ?_
    refine WF.take 10 rfl (fun _ _=>ov_sadd rfl rfl rfl (by simp<;>omega)) hx8 rfl rfl rfl (by kernel_rfl) ?_
    refine WF.take 13 rfl (fun _ _=>ov_sadd rfl rfl rfl (by simp<;>omega)) hx8 rfl rfl rfl (by kernel_rfl) ?_
    refine WF.take 14 rfl (fun _ _=>ov_sadd rfl rfl rfl (by simp<;>omega)) hx8 rfl rfl rfl (by kernel_rfl) ?_
    refine WF.take 15 rfl (fun _ _=>ov_sadd rfl rfl rfl (by simp<;>omega)) hx8 rfl rfl rfl (by kernel_rfl) ?_
    refine zp 16 hx8 ?_
    refine zd ?_
    refine zgo ?_
    exact ih (i+1) _ _ (by omega) ⟨rfl,by rw [hsn,hch];rfl,rfl,rfl,rfl,trivial⟩ (fin _ hx8)
   ·refine zgo ?_
    refine Runs.cond_dec rfl (fun q2=>?_) (fun q2=>?_)
    ·have hch:chS c=[100,101,108,32]++refS c.up++[10]:=by unfold chS;rw [if_neg (by omega),if_pos (by omega)]
     refine zgo ?_
     refine WO.call rfl rfl rfl rfl plain88 rfl (name_ret c.up _ (by omega) (by omega) u3) fun v h6 ⟨hx6,hv6⟩=>?_
     subst hv6
     refine zgo ?_
     exact ih (i+1) _ _ (by omega) ⟨rfl,by rw [hsn,hch];rfl,rfl,rfl,rfl,trivial⟩ (fin _ hx6)
    ·have hch:chS c=[116,105,101,32]++refS c.up++[32]++refS c.down++[10]:=by unfold chS;rw [if_neg (by omega),if_neg (by omega)]
     refine zgo ?_
     refine Runs.drawn (m:=13) (Ext h4) (fun _=>false) mixed rfl ?_
     refine zp 0 (Fr.refl _ _) ?_
     refine zp 1 (Fr.refl _ _) ?_
     refine zL 2 (fun _ hS=>(hS.xcs e1)) (Fr.refl _ _) ?_
     refine zp 6 (Fr.refl _ _) ?_
     refine zL 7 (fun _ hS=>(hS.xcs e2)) (Fr.refl _ _) ?_
     refine WF.call 3 (by kernel_rfl) rfl rfl rfl rfl rfl plain88 rfl (name_ret c.up _ (by omega) (by omega) u3) fun v h6 ⟨hx6,hv6⟩=>⟨.inr hx6,?_⟩
     subst hv6
     refine WF.take 4 rfl (fun _ _=>ov_sadd rfl rfl rfl (by simp<;>omega)) hx6 rfl rfl rfl (by kernel_rfl) ?_
     refine WF.take 5 rfl (fun _ _=>ov_sadd rfl rfl rfl (by simp<;>omega)) hx6 rfl rfl rfl (by kernel_rfl) ?_
     refine WF.call 8 (by kernel_rfl) rfl rfl rfl rfl rfl plain88 rfl (name_ret c.down _ (by omega) (by omega) d3) fun v h7 ⟨hx7,hv7⟩=>⟨.inr (hx6.trans hx7),?_⟩
     subst hv7
     have hx8:=hx6.trans hx7
     refine WF.take 9 rfl (fun _ _=>ov_sadd rfl rfl rfl (by simp<;>omega)) hx8 rfl rfl rfl (by kernel_rfl) ?_
     refine WF.take 10 rfl (fun _ _=>ov_sadd rfl rfl rfl (by simp<;>omega)) hx8 rfl rfl rfl (by kernel_rfl) ?_
     refine WF.take 11 rfl (fun _ _=>ov_sadd rfl rfl rfl (by simp<;>omega)) hx8 rfl rfl rfl (by kernel_rfl) ?_
     refine zp 12 hx8 ?_
     refine zd ?_
     refine zgo ?_
     exact ih (i+1) _ _ (by omega) ⟨rfl,by rw [hsn,hch];rfl,rfl,rfl,rfl,trivial⟩ (fin _ hx8)
  ·refine zgo ?_
   refine Runs.ret func56 (ret1 results56 rfl) ⟨hx2.trans hx3,?_⟩
   rw [hts,List.take_of_length_le (by omega)]
end Go.Proofs.YtlaffgagmncgjaaGreatDoor
