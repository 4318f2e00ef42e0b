import Derived.Test.YtlaffgagmncgjabDoorT9
namespace Go.Proofs.YtlaffgagmncgjabDoor
open Go Go.Pat Go.Proofs
theorem one_linesC (l:List LineD):One (linesC l):=by
 intro u hu
 simp only [linesC,List.mem_flatMap] at hu
 obtain ⟨x,_,hx⟩:=hu
 exact x.one u hx
def Reach (ps:List PatchD) (a c:Nat):Prop:=∀ S:Nat→Prop,S a→(∀ (b d:Nat) (p:PatchD),S b→p∈ps→p.id=b→d∈p.needs→S d)→S c
theorem Reach.refl {ps:List PatchD} {a:Nat}:Reach ps a a:=fun _ h _=>h
theorem Reach.step {ps:List PatchD} {a b c:Nat} {p:PatchD} (h1:Reach ps a b) (h2:p∈ps) (h3:p.id=b) (h4:c∈p.needs):Reach ps a c:=fun S r s=>s b c p (h1 S r s) h2 h3 h4
theorem Reach.last {ps:List PatchD} {a c:Nat} (h:Reach ps a c):c=a∨∃ p∈ps,c∈p.needs:=h (fun c=>c=a∨∃ p∈ps,c∈p.needs) (.inl rfl) fun _ _ p _ h2 _ h4=>.inr ⟨p,h2,h4⟩
structure Closed (ps:List PatchD):Prop where
 nodup:(ps.map PatchD.id).Nodup
 needs:∀ p∈ps,∀ n∈p.needs,n∈ps.map PatchD.id
theorem nodup_len:∀ {l m:List Nat},l.Nodup→(∀ x∈l,x∈m)→l.length≤m.length:=by
 intro l
 induction l with
 | nil=>intro m _ _;simp
 | cons a l ih =>
  intro m hn hs
  have ha:a∈m:=hs a (by simp)
  have h1:=ih (m:=m.erase a) (List.nodup_cons.1 hn).2 (fun x hx=>by
   have hne:x≠a:=fun e=>(List.nodup_cons.1 hn).1 (e ▸ hx)
   exact (List.mem_erase_of_ne hne).2 (hs x (by simp [hx])))
  have h2:=List.length_erase_of_mem ha
  have h3:0<m.length:=List.length_pos_of_mem ha
  simp;omega
structure Gath (ps:List PatchD) (a:Nat) (l:List Nat) (k:Nat):Prop where
 mem:a∈l
 nodup:l.Nodup
 sub:∀ x∈l,x∈ps.map PatchD.id
 reach:∀ x∈l,Reach ps a x
 closed:∀ i x,i<k→l[i]? = some x→∀ p∈ps,p.id=x→∀ n∈p.needs,n∈l
theorem Gath.all {ps:List PatchD} {a:Nat} {l:List Nat} (g:Gath ps a l l.length) (x:Nat):x∈l↔Reach ps a x:=by
 constructor
 ·exact g.reach x
 ·intro h
  refine h (fun x=>x∈l) g.mem fun b d p ih h2 h3 h4=>?_
  obtain ⟨i,hi,he⟩:=List.getElem_of_mem ih
  exact g.closed i _ hi (by rw [List.getElem?_eq_getElem hi,he]) _ h2 h3 _ h4
theorem Gath.push {ps:List PatchD} {a:Nat} {l:List Nat} {k m:Nat} {p:PatchD} (g:Gath ps a l k) (hp:p∈ps) (hx:p.id∈l) (hm:m∈p.needs) (hn:m∉l) (hc:m∈ps.map PatchD.id) (hk:k≤l.length):Gath ps a (l++[m]) k:=by
 refine ⟨List.mem_append_left _ g.mem,?_,?_,?_,?_⟩
 ·rw [List.nodup_append]
  exact ⟨g.nodup,by simp,fun x hx y hy e=>by simp at hy;subst hy;subst e;exact hn hx⟩
 ·intro x hx'
  rcases List.mem_append.1 hx' with e | e
  ·exact g.sub x e
  ·simp at e;subst e;exact hc
 ·intro x hx'
  rcases List.mem_append.1 hx' with e | e
  ·exact g.reach x e
  ·simp at e;subst e;exact .step (g.reach _ hx) hp rfl hm
 ·intro i x hi hix p' hp' he n hn'
  rcases Nat.lt_or_ge i l.length with e | e
  ·rw [List.getElem?_append_left e] at hix
   exact List.mem_append_left _ (g.closed i x hi hix p' hp' he n hn')
  ·omega
theorem ids_inj {ps:List PatchD} (h:(ps.map PatchD.id).Nodup):∀ {p q:PatchD},p∈ps→q∈ps→p.id=q.id→p=q:=by
 induction ps with
 | nil=>intro p q hp;cases hp
 | cons x r ih =>
  intro p q hp hq e
  simp only [List.map_cons,List.nodup_cons] at h
  rcases List.mem_cons.1 hp with e1 | hp'<;>rcases List.mem_cons.1 hq with e2 | hq'
  ·rw [e1,e2]
  ·exact (h.1 (List.mem_map.2 ⟨q,hq',by rw [← e,e1]⟩)).elim
  ·exact (h.1 (List.mem_map.2 ⟨p,hp',by rw [e,e2]⟩)).elim
  ·exact ih h.2 hp' hq' e
structure PX where
 (k:Nat) (v:Value) (l:List Nat)
end Go.Proofs.YtlaffgagmncgjabDoor
namespace Go.Proofs.YtlaffgagmncgjabDoor
open Go Go.Pat Go.Proofs
def hasS (ls:List LineD) (r:RefD):Bool:=decide (r.p=0)||ls.any fun l=>(l.ref.eqb r)
theorem lineS_ok {w edge:List UInt8} {r:RefD} (h:lineS w edge=some r):RefD.ok r:=by
 unfold lineS at h
 split at h
 ·cases h;split<;>exact ⟨by decide,by decide,fun _=>by decide⟩
 ·split at h
  ·split at h
   ·rename_i h1 h2
    split at h
    ·rename_i hp
     cases h
     exact ⟨numberS_lt h1,numberS_lt h2,fun e=>by dsimp only at e;omega⟩
    ·cases h
   ·cases h
  ·cases h
theorem ref0_ok:RefD.ok ⟨0,0⟩:=⟨by decide,by decide,fun _=>by decide⟩
theorem changeS_ok {s:List UInt8} {c:ChangeD} (h:changeS s=some c):ChangeD.ok c:=by
 unfold changeS at h
 split at h
 ·split at h
  ·split at h
   ·split at h
    ·rename_i h1 h2
     split at h
     ·rename_i ht
      cases h
      refine ⟨lineS_ok h1,lineS_ok h2,?_⟩
      unfold textOk at ht
      simp only [Bool.and_eq_true,decide_eq_true_eq] at ht
      exact ht.1
     ·cases h
    ·cases h
   ·cases h
  ·split at h
   ·split at h
    ·split at h
     ·rename_i h1
      cases h
      exact ⟨lineS_ok h1,ref0_ok,by simp⟩
     ·cases h
    ·cases h
   ·split at h
    ·split at h
     ·split at h
      ·rename_i h1 h2
       cases h
       exact ⟨lineS_ok h1,lineS_ok h2,by simp⟩
      ·cases h
     ·cases h
    ·cases h
 ·cases h
theorem nameS_lt {w:List UInt8} {n:Nat} (h:nameS w=some n):n<10000∧n≠0:=by
 unfold nameS at h
 split at h
 ·rename_i h1
  split at h
  ·cases h
  ·cases h;exact ⟨numberS_lt h1,by assumption⟩
 ·cases h
theorem allSome_mem {α β:Type} {f:α→Option β} {l:List α} {bs:List β} (h:allSome f l=some bs):∀ b∈bs,∃ a∈l,f a=some b:=by
 induction l generalizing bs with
 | nil=>simp [allSome] at h;subst h;simp
 | cons x l ih =>
  simp only [allSome] at h
  cases hx:f x with
  | none=>simp [hx] at h
  | some y =>
   simp only [hx] at h
   cases hl:allSome f l with
   | none=>simp [hl] at h
   | some ys =>
    simp only [hl] at h
    cases h
    intro b hb
    rcases List.mem_cons.1 hb with rfl | hb
    ·exact ⟨x,by simp,hx⟩
    ·obtain ⟨a,ha,he⟩:=ih hl b hb
     exact ⟨a,by simp [ha],he⟩
theorem parse_ok {s:List UInt8} {p:PatchD} (h:parseS s=some p):PatchD.ok p∧p.id≠0:=by
 unfold parseS at h
 split at h
 ·cases h
 ·split at h
  ·split at h
   ·cases h
   ·rename_i hr
    split at h
    ·split at h
     ·split at h
      ·cases h
      ·rename_i hn
       split at h
       ·cases h
       ·rename_i h1
        split at h
        ·cases h
        ·rename_i h2
         split at h
         ·cases h
         ·rename_i h3
          cases h
          have l2:=allSome_length _ h2
          have l3:=allSome_length _ h3
          refine ⟨⟨(nameS_lt h1).1,fun n hn=>?_,fun c hc=>?_,?_,?_⟩,(nameS_lt h1).2⟩
          ·obtain ⟨a,_,ha⟩:=allSome_mem h2 n hn;exact (nameS_lt ha).1
          ·obtain ⟨a,_,ha⟩:=allSome_mem h3 c hc;exact changeS_ok ha
          ·dsimp only;rw [l3];simp;omega
          ·dsimp only;rw [l2];omega
     ·cases h
    ·cases h
  ·cases h
def Past1 (ps:List PatchD) (p:PatchD) (x:Nat):Prop:=∃ n∈p.needs,Reach ps n x
def Acyc (ps:List PatchD):Prop:=∀ p∈ps,¬ Past1 ps p p.id
theorem Acyc.nil:Acyc []:=fun p hp=>by simp at hp
theorem reach_sub {ps qs:List PatchD} (h:∀ p∈ps,p∈qs) {a b:Nat} (hr:Reach ps a b):Reach qs a b:=fun S r s=>hr S r fun b d p hb hp hi hd=>s b d p hb (h p hp) hi hd
theorem Acyc.sub {ps qs:List PatchD} (h:∀ p∈ps,p∈qs) (ha:Acyc qs):Acyc ps:=fun p hp ⟨n,hn,hr⟩=>ha p (h p hp) ⟨n,hn,reach_sub h hr⟩
theorem reach_stay {ps qs:List PatchD} (hn:(qs.map PatchD.id).Nodup) (hsub:∀ p∈ps,p∈qs) (hcl:∀ p∈ps,∀ n∈p.needs,n∈ps.map PatchD.id) {a b:Nat} (ha:a∈ps.map PatchD.id) (hr:Reach qs a b):b∈ps.map PatchD.id∧Reach ps a b:=by
 refine hr (fun b=>b∈ps.map PatchD.id∧Reach ps a b) ⟨ha,.refl⟩ fun b d p hb hp hi hd=>?_
 obtain ⟨q,hq,e⟩:=List.mem_map.1 hb.1
 have:p=q:=ids_inj hn hp (hsub q hq) (by rw [hi,e])
 subst this
 exact ⟨hcl p hq d hd,hb.2.step hq hi hd⟩
theorem Acyc.push {ps qs:List PatchD} {p:PatchD} (ha:Acyc ps) (hn:(qs.map PatchD.id).Nodup) (hq:∀ q,q∈qs↔q=p∨q∈ps) (hcl:∀ q∈ps,∀ n∈q.needs,n∈ps.map PatchD.id) (hp:∀ n∈p.needs,n∈ps.map PatchD.id) (hnew:p.id∉ps.map PatchD.id):Acyc qs:=by
 intro q hqm ⟨n,hn',hr⟩
 have hsub:∀ q∈ps,q∈qs:=fun q h=>(hq q).2 (.inr h)
 rcases (hq q).1 hqm with e | e
 ·subst e
  exact hnew (reach_stay hn hsub hcl (hp n hn') hr).1
 ·exact ha q e ⟨n,hn',(reach_stay hn hsub hcl (hcl q e n hn') hr).2⟩
end Go.Proofs.YtlaffgagmncgjabDoor
