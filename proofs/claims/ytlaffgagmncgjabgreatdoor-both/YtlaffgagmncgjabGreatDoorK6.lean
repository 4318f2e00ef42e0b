import Derived.Test.YtlaffgagmncgjabGreatDoorK2
set_option maxRecDepth 20000
namespace Go.Proofs.YtlaffgagmncgjabGreatDoor
open Tryz Go Go.Pat Go.Proofs
structure Lines (t l0:List UInt8) (ls:List (List UInt8)):Prop where
 eq:t=(l0::ls).flatMap (· ++ [10])
 no:∀ s∈l0::ls,(10:UInt8)∉s
 one:∀ s∈ls,∃ x r,s=x::r∧x≠112
end Go.Proofs.YtlaffgagmncgjabGreatDoor
namespace Go.Pat
open Go
section
variable {P:Program} {n:Nat} {env:Env} {h:Heap} {o:Oper} {T:Tab}
end
end Go.Pat
namespace Go.Proofs.YtlaffgagmncgjabGreatDoor
open Tryz Go Go.Pat Go.Proofs
theorem plain_kpick:Plain Tryz.prog 28:=⟨_,func28,by decide +kernel,by rfl⟩
theorem kpick_ret (c:Int) (n:Nat) (h:Heap) (hc:-9223372036854775808≤c∧c≤9223372036854775807) (hn:0<n) (hn2:n≤9223372036854775807):Ret Tryz.prog 28 #[.int .i64 c,.int .i64 (n:Int)] h fun v h'=>h'=h∧∃ r:Nat,r<n∧v = .int .i64 (r:Int):=by
 refine Ret.of_body func28 rfl ntmps28 rfl rfl ?_
 obtain ⟨c1,c2⟩:=hc
 have fin:∀ d:Int,0≤d→∃ r:Nat,r<n∧Value.int .i64 (d % (n:Int)) = .int .i64 (r:Int):=fun d hd=>by
  have h1:=Int.emod_nonneg d (show (n:Int)≠0 by omega)
  have h2:=Int.emod_lt_of_pos d (show (0:Int)<(n:Int) by omega)
  refine ⟨(d % (n:Int)).toNat,by omega,?_⟩
  congr 1;omega
 refine zgo ?_
 refine Runs.cond_dec rfl (fun hneg=>?_) (fun hpos=>?_)
 ·refine zgo ?_
  refine WO.val (ov_neg rfl rfl (in_i64 (by omega) (by omega))) rfl rfl rfl ?_
  refine zgo ?_
  refine WO.val (ov_rem rfl rfl rfl (by omega) (by omega)) rfl rfl rfl ?_
  refine zgo ?_
  exact Runs.ret func28 (ret1 results28 rfl) ⟨rfl,fin _ (by omega)⟩
 ·refine zgo ?_
  refine WO.val (ov_rem rfl rfl rfl (by omega) (by omega)) rfl rfl rfl ?_
  refine zgo ?_
  exact Runs.ret func28 (ret1 results28 rfl) ⟨rfl,fin _ (by omega)⟩
section
variable {h h':Heap} {F:Nat→Prop} {b:Nat} {ps:List PatchD} {L:List (Nat × List PatchD)}
theorem KW.add (w:KW h F L) (f:Ext h h') (hb:h.size≤b) (hs:Sto (fun k=>New h h' k∧k≠b) h' b ps):KW h' (fun k=>F k∨(New h h' k∧k≠b)) ((b,ps)::L):=by
 have hl:∀ x∈L,x.1<h.size:=fun x hx=>(w.st x hx).lt
 have hz:=f.size
 have ht:=ktab_lt w.tab
 refine ⟨fun x hx=>?_,fun k hk=>?_,fun x hx k hk=>?_,?_,w.tab.fr f (by simp),fun x hx=>?_⟩
 ·rcases List.mem_cons.1 hx with e | e
  ·subst e;exact hs.mono fun k e=>.inr e
  ·exact ((w.st x e).ext f).mono fun k e=>.inl e
 ·rcases hk with e | e
  ·have:=w.lt k e;omega
  ·exact e.1.2
 ·rcases List.mem_cons.1 hx with e | e
  ·subst e
   rcases hk with e | e
   ·have:=w.lt k e;dsimp only;omega
   ·exact e.2
  ·rcases hk with e' | e'
   ·exact w.out x e k e'
   ·have:=hl x e;have:=e'.1.1;omega
 ·simp only [List.map_cons,List.nodup_cons]
  refine ⟨fun hm=>?_,w.nd⟩
  obtain ⟨x,hx,e⟩:=List.mem_map.1 hm
  have:=hl x hx;omega
 ·rcases List.mem_cons.1 hx with e | e
  ·subst e;dsimp only;omega
  ·exact w.pos x e
end
end Go.Proofs.YtlaffgagmncgjabGreatDoor
