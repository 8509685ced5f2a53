import Derived.Test.YtgbloieahmkcjaaGreatC22
import Derived.Deep.AppendLies
import Derived.Laws.OwnMore
namespace Go.Proofs.YtgbloieahmkcjaaGreat
set_option maxHeartbeats 20000000
set_option maxRecDepth 100000
open Go.RowKit Tryz
theorem uw(w:World)(a b:Obj):((w.alloc a).alloc b).heap[w.heap.size]?=some a/\((w.alloc a).alloc b).heap[w.heap.size+1]?=some b/\Lt w ((w.alloc a).alloc b):=by
 refine⟨?_,?_,bA (bA (KL _ _) _) _⟩
 ·rw[bp _ _ _ (by simp)];exact KS w a
 ·simpa using KS (w.alloc a) b
theorem fO{w w':World}{k:Nat}{o:Obj}(hb:Lt w w')(h:w.heap[k]?=some o):w'.heap[k]?=some o:=(hb.block k (ag h)).trans h
def rV(w:World)(B:Nat->Prop)(v:Value)(l:List dd):Prop:=∃a cap,v=.slice a l.length cap/\l.length<=cap/\(l=[]\/∃g off,B g/\a=some ⟨g,off,none⟩/\∀j c,l[j]?=some c->w.cell? ⟨g,off+j*2,none⟩=some (.string c.1)/\w.cell? ⟨g,off+j*2+1,none⟩=some (.string c.2))
theorem rV.frame{w w':World}{B B':Nat->Prop}{v:Value}{l:List dd}(h:rV w B v l)(hc:∀g,B g->∀o,w'.cell? ⟨g,o,none⟩=w.cell? ⟨g,o,none⟩)(hB:∀g,B g->B' g):rV w' B' v l:=by
 obtain⟨a,cap,h1,h2,h3⟩:=h;refine⟨a,cap,h1,h2,h3.imp (fun e=>e) ?_⟩;rintro⟨g,off,hg,ha,hh⟩;exact⟨g,off,hB g hg,ha,fun j x hj=>by rw[hc g hg,hc g hg];exact hh j x hj⟩
theorem rV.at{w:World}{B:Nat->Prop}{v:Value}{l:List dd}(h:rV w B v l):kK w v l:=by
 obtain⟨a,cap,h1,h2,h3⟩:=h;refine⟨a,cap,h1,h2,h3.imp (fun e=>e) ?_⟩;rintro⟨g,off,hg,ha,hh⟩;exact⟨g,off,ha,hh⟩
abbrev OX:=bo×Value
def nP(x:OX):List Value:=[.string x.1.1,.string x.1.2.1,x.2]
def et(c:dd):List Value:=[.string c.1,.string c.2]
theorem sj:∀(xs:List dd) (a:Nat) (c:dd) (j:Nat),xs[a]?=some c->j<2->(xs.flatMap et)[a*2+j]?=(et c)[j]?
 |[],a,t,j,h,_=>by simp at h
 |x::ts,0,t,j,h,hj=>by
  simp at h;subst h;rw[List.flatMap_cons,Lf (by show _<2;omega)];simp
 |x::ts,a+1,t,j,h,hj=>by
  rw[List.flatMap_cons,Lg (by show 2<=_;omega)];rw[show(a+1)*2+j-(et x).length=a*2+j by show(a+1)*2+j-2=_;omega];exact sj ts a t j (by simpa using h) hj
theorem rV.of_own{w:World}{base:Nat}{B:Nat->Prop}{v:Value}{l:List dd}(h:w.ownsRow base 34 2 v l.length (l.flatMap et))(hB:∀g,v.ownBlock=some g->B g):rV w B v l:=by
 rcases h.2 with⟨hv,h0⟩|⟨g,cap,cur,hv,hg,hh,hr⟩
 ·exact⟨none,0,by rw[hv,h0],by omega,Or.inl (KZ h0)⟩
 ·subst hv
  refine⟨some ⟨g,0,none⟩,cap,rfl,hr.1,Or.inr ⟨g,0,hB g rfl,rfl,fun j x hj=>?_⟩⟩;have hjl:j<l.length:=(KO.1 hj).1;have q:∀i,i<2->w.cell? ⟨g,0+j*2+i,none⟩=(et x)[i]?:=fun i hi=>by
   rw[Nat.zero_add,h.cellAt _ (by omega)];exact sj l j x i hj hi
  exact⟨q 0 (by omega),q 1 (by omega)⟩
structure dw(w:World)(B0:Nat)(vO:Value)(xs:List OX):Prop where
 own:w.ownsRow B0 37 3 vO xs.length (xs.flatMap nP)
 sub:∀x∈xs,w.ownsRow B0 34 2 x.2 x.1.2.2.length (x.1.2.2.flatMap et)
 dis:xs.Pairwise (fun x y=>∀g,x.2.ownBlock=some g->y.2.ownBlock≠some g)
theorem dw.far{w w':World}{B0:Nat}{vO:Value}{xs:List OX}(h:dw w B0 vO xs)(hf:∀k,B0<=k->k<w.heap.size->w'.heap[k]?=w.heap[k]?)(_:w.heap.size<=w'.heap.size):dw w' B0 vO xs:=
 ⟨kQ h.own (fun k hk=>hf k (i7 h.own k hk) (ep h.own k hk)),fun x hx=>kQ (h.sub x hx) (fun k hk=>hf k (i7 (h.sub x hx) k hk) (ep (h.sub x hx) k hk)),h.dis⟩
theorem BD{w:World}{A B m n s t:Nat}{e f:TypeId}{u v:Value}{xs ys:List Value}(h:w.ownsRow A e s u m xs)(h':w.ownsRow B f t v n ys)(hne:e≠f)(g:Nat)(hg:v.ownBlock=some g):u.ownBlock≠some g:=by
 rcases h'.2 with⟨rfl,_⟩|⟨g1,c1,cur,rfl,_,hh,_⟩
 ·simp[Value.ownBlock]at hg
 ·simp[Value.ownBlock]at hg;subst hg
  intro e;rcases h.2 with⟨rfl,_⟩|⟨g2,c2,cur2,rfl,_,hh2,_⟩
  ·simp[Value.ownBlock]at e
  ·simp[Value.ownBlock]at e;subst e;rw[hh]at hh2;cases hh2;exact hne rfl
theorem dw.push{w w':World}{B0 C g' LM:Nat}{vO:Value}{xs:List OX}{x:OX}(h:dw w B0 vO xs)(hx:w.ownsRow C 34 2 x.2 x.1.2.2.length (x.1.2.2.flatMap et))(hC:B0<=C)(hn:∀y∈xs,∀g,y.2.ownBlock=some g->g<C)
 (LJ:w'.ownsRow B0 37 3 (.slice (some ⟨g',0,none⟩) (xs.length+1) LM) (xs.length+1) (xs.flatMap nP++nP x)) (Nf:∀k,B0<=k->k<w.heap.size->vO.ownBlock≠some k->w'.heap[k]?=w.heap[k]?):
 dw w' B0 (.slice (some ⟨g',0,none⟩) (xs.length+1) LM) (xs++[x]):=by
 have hx0:w.ownsRow B0 34 2 x.2 x.1.2.2.length (x.1.2.2.flatMap et):=nh hx hC;have hfr:∀{z:OX},w.ownsRow B0 34 2 z.2 z.1.2.2.length (z.1.2.2.flatMap et)->w'.ownsRow B0 34 2 z.2 z.1.2.2.length (z.1.2.2.flatMap et):=fun hh=>
  kQ hh (fun k hk=>Nf k (i7 hh k hk) (ep hh k hk) (BD h.own hh (by decide) k hk))
 refine⟨by rw[Lb,List.flatMap_append];simpa using LJ,fun z hz=>?_,?_⟩
 ·rcases List.mem_append.1 hz with q|q
  ·exact hfr (h.sub z q)
  ·simp at q;subst q;exact hfr hx0
 ·rw[List.pairwise_append]
  refine⟨h.dis,List.pairwise_singleton _ _,fun y hy z hz g e1 e2=>?_⟩;simp at hz;subst hz;have:=hn y hy g e1;have:=i7 hx g e2;omega
theorem xm:∀(xs:List OX) (a:Nat) (c:OX) (j:Nat),xs[a]?=some c->j<3->(xs.flatMap nP)[a*3+j]?=(nP c)[j]?
 |[],a,t,j,h,_=>by simp at h
 |x::ts,0,t,j,h,hj=>by
  simp at h;subst h;rw[List.flatMap_cons,Lf (by show _<3;omega)];simp
 |x::ts,a+1,t,j,h,hj=>by
  rw[List.flatMap_cons,Lg (by show 3<=_;omega)];rw[show(a+1)*3+j-(nP x).length=a*3+j by show(a+1)*3+j-3=_;omega];exact xm ts a t j (by simpa using h) hj
theorem dw.rows{w:World}{B0:Nat}{vO:Value}{xs:List OX}(h:dw w B0 vO xs):eM w vO (xs.map (·.1)):=by
 rcases h.own.2 with⟨hv,h0⟩|⟨g,cap,cur,hv,hg,hh,hr⟩
 ·have:xs=[]:=KZ h0
  subst this;exact⟨none,0,hv,KK _,Or.inl rfl⟩
 ·subst hv
  refine⟨some ⟨g,0,none⟩,cap,by rw[Ll],by rw[Ll];exact hr.1,Or.inr ⟨g,0,rfl,fun j r hj=>?_⟩⟩;rw[La]at hj;cases hx:xs[j]? with
  |none=>rw[hx]at hj;cases hj
  |some x=>
   rw[hx]at hj;cases hj;have hjl:j<xs.length:=(KO.1 hx).1;have q:∀i,i<3->w.cell? ⟨g,0+j*3+i,none⟩=(nP x)[i]?:=fun i hi=>by
    rw[Nat.zero_add,h.own.cellAt _ (by omega)];exact xm xs j x i hx hi
   exact⟨q 0 (by omega),q 1 (by omega),x.2,q 2 (by omega),(rV.of_own (B:=fun _=>True) (h.sub x (KN hx)) (fun _ _=>trivial)).at⟩
theorem info37:(prog.info? 37).map (fun i=>(i.zero,i.size,i.bytes))=some (some (.agg #[.string ⟨#[]⟩,.string ⟨#[]⟩,.slice none 0 0]),3,56):=by kernel_rfl
theorem info34:(prog.info? 34).map (fun i=>(i.zero,i.size,i.bytes))=some (some (.agg #[.string ⟨#[]⟩,.string ⟨#[]⟩]),2,32):=by kernel_rfl
theorem dw.low{w:World}{B C:Nat}{v:Value}{xs:List OX}(h:dw w B v xs)(hc:C<=B):dw w C v xs:=⟨nh h.own hc,fun x hx=>nh (h.sub x hx) hc,h.dis⟩
theorem dw.nil(w:World)(B:Nat):dw w B (.slice none 0 0) []:=⟨K7 _ _ _ _,fun x hx=>by simp at hx,List.Pairwise.nil⟩
theorem pP{w:World}{base n size g cap j:Nat}{e:TypeId}{xs:List Value}(h:w.ownsRow base e size (.slice (some ⟨g,0,none⟩) n cap) n xs)(u:Value):(w.setCell ⟨g,j,none⟩ u).ownsRow base e size (.slice (some ⟨g,0,none⟩) n cap) n (xs.set j u):=by
 rcases h.2 with⟨y,_⟩|⟨g',LM,cur,hv,hg,hh,h1,h2,h3,h4⟩
 ·cases y
 ·have e1:=(Addr.mk.inj (KY (Value.slice.inj hv).1)).1
  have e2:=(Value.slice.inj hv).2.2;subst e1 e2;exact⟨by rw[List.length_set];exact h.1,Or.inr ⟨g,cap,cur.setIfInBounds j u,rfl,hg,aJ hh j u,h1,h2,by rw[Array.size_setIfInBounds];exact h3,by rw[Array.toList_setIfInBounds,List.take_set,h4]⟩⟩
end Go.Proofs.YtgbloieahmkcjaaGreat
