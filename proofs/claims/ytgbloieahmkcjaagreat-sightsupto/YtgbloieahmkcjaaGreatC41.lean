import Derived.Test.YtgbloieahmkcjaaGreatC38
import Derived.Test.YtgbloieahmkcjaaGreatC40
import Derived.Test.YtgbloieahmkcjaaGreatC25
import Derived.Test.YtgbloieahmkcjaaGreatC26
import Derived.Laws.OwnMore
import Derived.Laws.MakeOwn
import Derived.Deep.QuietTactic
import Derived.BigQuiet
namespace Go.Proofs.YtgbloieahmkcjaaGreat
set_option maxHeartbeats 20000000
set_option maxRecDepth 100000
open Go.RowKit Tryz
theorem tw(i:Nat):∀u∈([.string ⟨#[]⟩,.string (dM i),.slice none 0 0]:List Value),u.oneCell'=true:=by
 intro u hu;simp at hu;rcases hu with rfl|rfl|rfl<;>rfl
theorem xq(i:Nat):∀u∈([.string (dM i),.string ⟨#[]⟩]:List Value),u.oneCell'=true:=by
 intro u hu;simp at hu;rcases hu with rfl|rfl<;>rfl
def sv(s:SL):Value:=.slice s.1 s.2.1 s.2.2
structure Fm(B0:Nat)(K:Nat->Prop)(w w':World):Prop where
 os:w'.os=w.os
 tape:w'.tape=w.tape
 output:w'.output=w.output
 size:w.heap.size<=w'.heap.size
 low:∀k,k<B0->w'.heap[k]?=w.heap[k]?
 typ:∀k cs t fr,w.heap[k]?=some (.cells cs t fr)->(t=37\/t=34\/t=25)->¬K k->w'.heap[k]?=w.heap[k]?
theorem Fm.below{B0:Nat}{K:Nat->Prop}{w w':World}(h:Fm B0 K w w'):Below B0 w w':=⟨h.os,h.tape,h.output,h.size,h.low⟩
theorem Fm.of_below{B0:Nat}{K:Nat->Prop}{w w':World}(h:Lt w w')(hb:B0<=w.heap.size):Fm B0 K w w':=⟨h.os,h.tape,h.output,h.size,fun k hk=>h.block k (by omega),fun k _ _ _ hc _ _=>h.block k (ag hc)⟩
theorem Fm.mono{B0:Nat}{K K':Nat->Prop}{w w':World}(h:Fm B0 K w w')(hk:∀k,K k->K' k):Fm B0 K' w w':=⟨h.os,h.tape,h.output,h.size,h.low,fun k cs t fr hc ht hn=>h.typ k cs t fr hc ht (fun q=>hn (hk k q))⟩
theorem Fm.trans{B0:Nat}{K:Nat->Prop}{w x y:World}(h:Fm B0 K w x)(h':Fm B0 K x y):Fm B0 K w y:=
 ⟨h'.os.trans h.os,h'.tape.trans h.tape,h'.output.trans h.output,KP h.size h'.size,fun k hk=>(h'.low k hk).trans (h.low k hk),fun k cs t fr hc ht hn=>(h'.typ k cs t fr ((h.typ k cs t fr hc ht hn).trans hc) ht hn).trans (h.typ k cs t fr hc ht hn)⟩
theorem Fm.cut{B0:Nat}{K K':Nat->Prop}{w x y:World}(h:Lt w x)(hb:B0<=w.heap.size)(h':Fm B0 K x y)(hk:∀k,K k->w.heap.size<=k):Fm B0 K' w y:=
 ⟨h'.os.trans h.os,h'.tape.trans h.tape,h'.output.trans h.output,KP h.size h'.size,fun k hk=>(h'.low k hk).trans (h.block k (by omega)),fun k cs t fr hc ht _=>by
  have hl:=ag hc;have e:=h.block k hl;exact(h'.typ k cs t fr (e.trans hc) ht (fun q=>by have:=hk k q;omega)).trans e⟩
theorem By{w:World}{B n s:Nat}{e:TypeId}{v:Value}{xs:List Value}(h:w.ownsRow B e s v n xs)(k:Nat)(hk:v.ownBlock=some k):∃cur,w.heap[k]?=some (.cells cur e (0,0)):=by
 rcases h.2 with⟨rfl,_⟩|⟨g,c,cur,rfl,_,hh,_⟩
 ·simp[Value.ownBlock]at hk
 ·simp[Value.ownBlock]at hk;subst hk;exact⟨cur,hh⟩
theorem ta{w w':World}{B B0 n s:Nat}{e:TypeId}{v:Value}{xs:List Value}{K:Nat->Prop}(h:w.ownsRow B e s v n xs)(he:e=37\/e=34)(hf:Fm B0 K w w')(hk:∀g,v.ownBlock=some g->¬K g):w'.ownsRow B e s v n xs:=
 kQ h (fun k e1=>by obtain⟨cur,hc⟩:=By h k e1;exact hf.typ k cur e _ hc (he.imp (fun e=>e) .inl) (hk k e1))
def ez(v:Value)(xs:List OX)(g:Nat):Prop:=v.ownBlock=some g\/∃x∈xs,x.2.ownBlock=some g
theorem dw.fm{w w':World}{B B0:Nat}{v:Value}{xs:List OX}{K:Nat->Prop}(h:dw w B v xs)(hf:Fm B0 K w w')(hk:∀g,ez v xs g->¬K g):dw w' B v xs:=
 ⟨ta h.own (.inl rfl) hf (fun g e=>hk g (.inl e)),fun x hx=>ta (h.sub x hx) (.inr rfl) hf (fun g e=>hk g (.inr ⟨x,hx,e⟩)),h.dis⟩
theorem dw.lt{w:World}{B:Nat}{v:Value}{xs:List OX}(h:dw w B v xs)(g:Nat)(hg:ez v xs g):B<=g/\g<w.heap.size:=by
 rcases hg with e|⟨x,hx,e⟩
 ·exact⟨i7 h.own g e,ep h.own g e⟩
 ·exact⟨i7 (h.sub x hx) g e,ep (h.sub x hx) g e⟩
theorem Fm.tidy{B0:Nat}{K K':Nat->Prop}{w w':World}(h:Fm B0 K w w')(hk:∀k,k<w.heap.size->K k->K' k):Fm B0 K' w w':=⟨h.os,h.tape,h.output,h.size,h.low,fun k cs t fr hc ht hn=>h.typ k cs t fr hc ht (fun q=>hn (hk k (ag hc) q))⟩
theorem Fm.grown{B0 B n s:Nat}{e:TypeId}{K:Nat->Prop}{w w':World}{v:Value}{xs:List Value}(hg:w.grownBy w' v.ownBlock)(ho:w.ownsRow B e s v n xs)(hB:B0<=B)(hw:B0<=w.heap.size)(hK:∀k,v.ownBlock=some k->K k):Fm B0 K w w':=
 ⟨hg.os,hg.tape,hg.output,hg.size,fun k hk=>hg.block k (by omega) (fun q=>by have:=i7 ho k q.symm;omega),fun k _ _ _ hc _ hn=>hg.block k (ag hc) (fun q=>hn (hK k q.symm))⟩
def ty(j:Nat):TypeId:=if j=1\/j=4 then 35 else 23
theorem sw(j:Nat):ty j=35\/ty j=23:=by unfold ty;split<;>simp
def bn{α:Type}(f:Nat->α)(j:Nat)(x:α):Nat->α:=fun i=>if i=j then x else f i
structure Bk(w:World)(B0 b:Nat)(F:Nat->Value)(L:Nat->List SL):Prop where
 bl:w.heap[b]?=some (.cells #[F 0,F 1,F 2,F 3,F 4,F 5,F 6,F 7,F 8] 31 (0,0))
 hb:B0<=b
 o:∀j,w.ownsRow B0 (ty j) 1 (F j) (L j).length ((L j).map sv)
 d:∀i j,i≠j->∀g,(F i).ownBlock=some g->(F j).ownBlock≠some g
 z:F 2=.slice none 0 0/\F 7=.slice none 0 0/\F 8=.slice none 0 0
theorem Bk.far{w w':World}{B0 b:Nat}{F:Nat->Value}{L:Nat->List SL}(h:Bk w B0 b F L)(hf:∀(k:Nat) cs (t:TypeId) fr,w.heap[k]?=some (Obj.cells cs t fr)->(t=31\/t=23\/t=35)->w'.heap[k]?=w.heap[k]?):Bk w' B0 b F L:=
 ⟨(hf _ _ _ _ h.bl (.inl rfl)).trans h.bl,h.hb,fun j=>kQ (h.o j) (fun k e=>by
   obtain⟨cur,hc⟩:=By (h.o j) k e;exact hf k cur _ _ hc (by rcases sw j with q|q<;>simp[q])),h.d,h.z⟩
theorem Bk.below{w w':World}{B0 b:Nat}{F:Nat->Value}{L:Nat->List SL}(h:Bk w B0 b F L)(hb:Lt w w'):Bk w' B0 b F L:=h.far (fun k _ _ _ hc _=>hb.block k (ag hc))
theorem Bk.set{w:World}{B0 b g:Nat}{F:Nat->Value}{L:Nat->List SL}{cs:Array Value}{t:TypeId}{fr:Nat×Nat}(h:Bk w B0 b F L)(hg:w.heap[g]?=some (.cells cs t fr))(ht:t≠31/\t≠23/\t≠35)(i:Nat)(u:Value):Bk (w.setCell ⟨g,i,none⟩ u) B0 b F L:=
 h.far (fun k cs' t' fr' hc ht'=>by
  refine KX _ _ _ _ (fun e=>?_);subst e;rw[hg]at hc;cases hc;rcases ht' with q|q|q
  ·exact ht.1 q
  ·exact ht.2.1 q
  ·exact ht.2.2 q)
theorem Bk.grown{w w':World}{B0 b B n s:Nat}{e:TypeId}{F:Nat->Value}{L:Nat->List SL}{v:Value}{xs:List Value}(h:Bk w B0 b F L)(hg:w.grownBy w' v.ownBlock)(ho:w.ownsRow B e s v n xs)(he:e=37\/e=34):Bk w' B0 b F L:=
 h.far (fun k _ _ _ hc ht=>hg.block k (ag hc) (fun q=>gM ho hc (by rcases he with r|r<;>rcases ht with t|t|t<;>rw[r,t]<;>decide) q.symm))
theorem Bk.ne{w:World}{B0 b:Nat}{F:Nat->Value}{L:Nat->List SL}(h:Bk w B0 b F L)(j:Nat):(F j).ownBlock≠some b:=gM (h.o j) h.bl (by rcases sw j with q|q<;>rw[q]<;>decide)
theorem Bk.put{w1:World}{b j:Nat}{F:Nat->Value}(hb:w1.heap[b]?=some (.cells #[F 0,F 1,F 2,F 3,F 4,F 5,F 6,F 7,F 8] 31 (0,0)))(hj:j<9)(v:Value):(w1.setCell ⟨b,j,none⟩ v).heap[b]?=some (.cells #[bn F j v 0,bn F j v 1,bn F j v 2,bn F j v 3,bn F j v 4,bn F j v 5,bn F j v 6,bn F j v 7,bn F j v 8] 31 (0,0)):=by
 rw[aJ hb j v];have:j=0\/j=1\/j=2\/j=3\/j=4\/j=5\/j=6\/j=7\/j=8:=by omega
 rcases this with rfl|rfl|rfl|rfl|rfl|rfl|rfl|rfl|rfl<;>rfl
theorem Bk.grow{w w1:World}{B0 b j g:Nat}{F:Nat->Value}{L:Nat->List SL}{v:Value}{new:List SL}(h:Bk w B0 b F L)(hj:j=0\/j=1\/j=3\/j=4\/j=5\/j=6)(hg:w.grownBy w1 (F j).ownBlock)(ho:w1.ownsRow B0 (ty j) 1 v (L j++new).length ((L j++new).map sv))(hv:v.ownBlock=some g)(hwh:(F j).ownBlock=some g\/w.heap.size<=g):
 Bk (w1.setCell ⟨b,j,none⟩ v) B0 b (bn F j v) (bn L j (L j++new)):=by
 have hb1:w1.heap[b]?=_:=(hg.block b (ag h.bl) (fun e=>h.ne j e.symm)).trans h.bl;have hd:∀i,i≠j->(F i).ownBlock≠some g:=fun i hi e=>by
  rcases hwh with q|q
  ·exact h.d i j hi g e q
  ·have:=ep (h.o i) g e;omega
 refine⟨Bk.put hb1 (by omega) v,h.hb,fun i=>?_,fun i k hik g' e1 e2=>?_,?_⟩
 ·unfold bn
  by_cases hi:i=j
  ·subst hi
   rw[K9 rfl,K9 rfl];exact qH ho (gM ho hb1 (by rcases sw i with q|q<;>rw[q]<;>decide)) i v
  ·rw[K8 hi,K8 hi]
   refine qH (kQ (h.o i) (fun k hk=>hg.block k (ep (h.o i) k hk) (fun e=>h.d i j hi k hk e.symm))) (h.ne i) j v
 ·unfold bn at e1 e2
  by_cases hi:i=j
  ·rw[K9 hi]at e1
   rw[K8 (fun q=>hik (hi.trans q.symm))]at e2;rw[hv]at e1;cases e1;exact hd k (fun q=>hik (hi.trans q.symm)) e2
  ·rw[K8 hi]at e1
   by_cases hk:k=j
   ·rw[K9 hk,hv]at e2;cases e2
    exact hd i hi e1
   ·rw[K8 hk]at e2
    exact h.d i k hik g' e1 e2
 ·obtain⟨z1,z2,z3⟩:=h.z
  unfold bn;rw[K8 (by omega),K8 (by omega),K8 (by omega)];exact⟨z1,z2,z3⟩
theorem Bk.grow_fm{w w1:World}{B0 b j:Nat}{F:Nat->Value}{L:Nat->List SL}{v:Value}{K:Nat->Prop}(h:Bk w B0 b F L)(hB:B0<=w.heap.size)(hg:w.grownBy w1 (F j).ownBlock):Fm B0 K w (w1.setCell ⟨b,j,none⟩ v):=by
 have hm:∀k,k<w.heap.size->some k≠(F j).ownBlock->k≠b->(w1.setCell ⟨b,j,none⟩ v).heap[k]?=w.heap[k]?:=fun k h1 h2 h3=>(KX _ _ _ _ h3).trans (hg.block k h1 h2);refine⟨hg.os,hg.tape,hg.output,by simpa [World.setCell]using hg.size,fun k hk=>hm k (by omega) (fun e=>by have:=i7 (h.o j) k e.symm;omega) (by have:=h.hb;omega),fun k cs t fr hc ht _=>hm k (ag hc) (fun e=>?_) (fun e=>?_)⟩
 ·exact gM (h.o j) hc (by rcases sw j with q|q<;>rcases ht with r|r|r<;>rw[q,r]<;>decide) e.symm
 ·rw[e,h.bl]at hc;cases hc
  rcases ht with r|r|r<;>cases r
theorem Bk.drop{w:World}{B0 b j:Nat}{F:Nat->Value}{L:Nat->List SL}(h:Bk w B0 b F L)(hj:j<9):Bk (w.setCell ⟨b,j,none⟩ (.slice none 0 0)) B0 b (bn F j (.slice none 0 0)) (bn L j []):=by
 refine⟨Bk.put h.bl hj _,h.hb,fun i=>?_,fun i k hik g' e1 e2=>?_,?_⟩
 ·unfold bn
  by_cases hi:i=j
  ·rw[K9 hi,K9 hi];exact K7 _ _ _ _
  ·rw[K8 hi,K8 hi];exact qH (h.o i) (h.ne i) j _
 ·unfold bn at e1 e2
  by_cases hi:i=j
  ·rw[K9 hi]at e1;simp[Value.ownBlock]at e1
  ·by_cases hk:k=j
   ·rw[K9 hk]at e2;simp[Value.ownBlock]at e2
   ·rw[K8 hi]at e1;rw[K8 hk]at e2;exact h.d i k hik g' e1 e2
 ·obtain⟨z1,z2,z3⟩:=h.z
  unfold bn;refine⟨?_,?_,?_⟩<;>split<;>first|rfl|assumption
def Mk(e:TypeId)(E:List Value)(w:World)(A:Nat->Prop)(s:SL):Prop:=s.2.1<=2000000/\(s.2.1=0\/∃g cs,s.1=some ⟨g,0,none⟩/\A g/\w.heap[g]?=some (.cells cs e (0,0))/\∀k,k<s.2.1->∀j,j<E.length->cs[k*E.length+j]?=E[j]?)
abbrev eR(i:Nat):List Value:=[.string ⟨#[]⟩,.string (dM i),.slice none 0 0]
abbrev eC(i:Nat):List Value:=[.string (dM i),.string ⟨#[]⟩]
abbrev kw(w:World)(A:Nat->Prop)(i:Nat)(s:SL):Prop:=Mk 37 (eR i) w A s
abbrev ji(w:World)(A:Nat->Prop)(i:Nat)(s:SL):Prop:=Mk 34 (eC i) w A s
theorem Mk.fm{e:TypeId}{E:List Value}{w w':World}{A A' K:Nat->Prop}{B0:Nat}{s:SL}(h:Mk e E w A s)(he:e=37\/e=34)(hf:Fm B0 K w w')(hA:∀g cs,A g->w.heap[g]?=some (.cells cs e (0,0))->¬K g/\A' g):Mk e E w' A' s:=by
 refine⟨h.1,h.2.imp (fun e=>e) ?_⟩;rintro⟨g,cs,h1,h2,h3,h4⟩;have:=hA g cs h2 h3;exact⟨g,cs,h1,this.2,(hf.typ g cs _ _ h3 (he.imp (fun e=>e) .inl) this.1).trans h3,h4⟩
theorem Mk.mono{e:TypeId}{E:List Value}{w:World}{A A':Nat->Prop}{s:SL}(h:Mk e E w A s)(hA:∀g,A g->A' g):Mk e E w A' s:=⟨h.1,h.2.imp (fun e=>e) (fun⟨g,cs,h1,h2,h3⟩=>⟨g,cs,h1,hA g h2,h3⟩)⟩
def jH(E:List Value)(n:Nat):List Value:=(List.replicate n E).flatten
theorem sP(E:List Value)(n:Nat):(jH E n).length=n*E.length:=by simp[jH]
theorem wO(E:List Value)(n:Nat):jH E (n+1)=jH E n++E:=by simp[jH,List.replicate_succ']
theorem qW(E:List Value):∀n k j,k<n->j<E.length->(jH E n)[k*E.length+j]?=E[j]?
 |0,k,j,h,_=>by omega
 |n+1,k,j,h,hj=>by
  rw[wO];by_cases hk:k<n
  ·rw[Lf (by rw[sP];exact KV (by rw[Nat.add_mul,Nat.one_mul];omega:k*E.length+j<(k+1)*E.length) (Nat.mul_le_mul_right _ hk))]
   exact qW E n k j hk hj
  ·have:k=n:=by omega
   subst this;rw[Lg (by rw[sP];omega),sP];congr 1;omega
theorem Iv{E xs:List Value}{m:Nat}(hE:0<E.length)(hl:xs.length=m*E.length)(h:∀k,k<m->∀j,j<E.length->xs[k*E.length+j]?=E[j]?):xs=jH E m:=by
 refine List.ext_getElem? fun i=>?_;by_cases hi:i<m*E.length
 ·have h1:i/E.length<m:=(Nat.div_lt_iff_lt_mul hE).2 hi
  have h2:i%E.length<E.length:=Nat.mod_lt _ hE;have e:i=i/E.length*E.length+i%E.length:=by rw[Nat.mul_comm];exact(Nat.div_add_mod _ _).symm
  rw[e,h _ h1 _ h2,qW E m _ _ h1 h2]
 ·rw[List.getElem?_eq_none (by omega),List.getElem?_eq_none (by rw[sP];omega)]
theorem Mk.of_own{e:TypeId}{E:List Value}{w:World}{A:Nat->Prop}{B:Nat}{s:SL}{z:Nat}(hz:z=E.length)(h:w.ownsRow B e z (sv s) s.2.1 (jH E s.2.1))(hA:∀g,(sv s).ownBlock=some g->A g)(hl:s.2.1<=2000000):Mk e E w A s:=by
 subst hz;refine⟨hl,?_⟩;rcases h.2 with⟨hv,h0⟩|⟨g,cap,cur,hv,hg,hh,hn,hc,hs,ht⟩
 ·exact .inl h0
 ·have e1:s.1=some ⟨g,0,none⟩:=by unfold sv at hv;injection hv
  refine .inr ⟨g,cur,e1,hA g (by rw[hv];rfl),hh,fun k hk j hj=>?_⟩;have:=qW E s.2.1 k j hk hj;rw[<-ht,List.getElem?_take]at this;split at this
  ·simpa using this
  ·rename_i q
   exact absurd (KV (by rw[Nat.add_mul,Nat.one_mul];omega:k*E.length+j<(k+1)*E.length) (Nat.mul_le_mul_right _ hk)) q
theorem Mk.step{e:TypeId}{E:List Value}{w w':World}{A:Nat->Prop}{B n z:Nat}{s:SL}{v:Value}(hz:z=E.length)(h:Mk e E w A s)(hn:s.2.1<=n)(hg:w.grownBy w' v.ownBlock)(ho:w'.ownsRow B e z v n (jH E n)):Mk e E w' A s:=by
 subst hz;refine⟨h.1,h.2.imp (fun e=>e) ?_⟩;rintro⟨g,cs,h1,h2,h3,h4⟩;by_cases hv:some g=v.ownBlock
 ·rcases ho.2 with⟨rfl,_⟩|⟨g',cap,cur,rfl,_,hh,_,_,_,ht⟩
  ·simp[Value.ownBlock]at hv
  ·have:g=g':=by simpa [Value.ownBlock]using hv
   subst this;refine⟨g,cur,h1,h2,hh,fun k hk j hj=>?_⟩;have:=qW E n k j (by omega) hj;rw[<-ht,List.getElem?_take]at this;split at this
   ·simpa using this
   ·rename_i q
    exact absurd (KV (by rw[Nat.add_mul,Nat.one_mul];omega:k*E.length+j<(k+1)*E.length) (Nat.mul_le_mul_right _ (by omega:k+1<=n))) q
 ·exact⟨g,cs,h1,h2,(hg.block g (ag h3) hv).trans h3,h4⟩
def iF(e:TypeId)(E:List Value)(z B:Nat)(v:Value)(m i:Nat)(w wr:World):Prop:=∃xs,wr.ownsRow B e z v m xs/\(∀k,k<i->∀j,j<E.length->xs[k*E.length+j]?=E[j]?)/\w.grownBy wr v.ownBlock
theorem iF.start{e:TypeId}{E:List Value}{z B m:Nat}{v:Value}{w:World}{xs:List Value}(h:w.ownsRow B e z v m xs):iF e E z B v m 0 w w:=⟨xs,h,fun k hk=>by omega,rfl,rfl,rfl,KK _,fun _ _ _=>rfl⟩
theorem iF.drewN{e:TypeId}{E:List Value}{z B m i:Nat}{v:Value}{w wr:World}(h:iF e E z B v m i w wr)(n:Nat):iF e E z B v m i w (wr.drewN n):=by
 obtain⟨xs,h1,h2,h3⟩:=h;exact⟨xs,kQ h1 (fun _ _=>rfl),h2,h3.os,h3.tape,h3.output,h3.size,h3.block⟩
theorem rP{w wr:World}{g:Nat}{n cap:Nat}(h:w.grownBy wr (Value.slice (some ⟨g,0,none⟩) n cap).ownBlock)(i:Nat)(u:Value):w.grownBy (wr.setCell ⟨g,i,none⟩ u) (Value.slice (some ⟨g,0,none⟩) n cap).ownBlock:=
 ⟨h.os,h.tape,h.output,by simpa [World.setCell]using h.size,fun k h1 h2=>(KX _ _ _ _ (fun e=>h2 (by rw[show k=g from e];rfl))).trans (h.block k h1 h2)⟩
theorem iF.step2{e:TypeId}{a b:Value}{B m i g cap:Nat}{w wr:World}(h:iF e [a,b] 2 B (.slice (some ⟨g,0,none⟩) m cap) m i w wr)(hi:i<m):iF e [a,b] 2 B (.slice (some ⟨g,0,none⟩) m cap) m (i+1) w ((wr.setCell ⟨g,i*2,none⟩ a).setCell ⟨g,i*2+1,none⟩ b):=by
 obtain⟨xs,h1,h2,h3⟩:=h;have hl:=h1.1;refine⟨_,pP (pP h1 a) b,fun k hk j hj=>?_,rP (rP h3 _ _) _ _⟩;simp only[Lm,List.length_nil]at hj⊢;by_cases hki:k=i
 ·subst hki
  rcases(show j=0\/j=1 by omega)with rfl|rfl
  ·rw[List.getElem?_set_ne (by omega)];simp[List.getElem?_set];omega
  ·simp[List.getElem?_set];omega
 ·rw[List.getElem?_set_ne (by omega),List.getElem?_set_ne (by omega)]
  exact h2 k (by omega) j hj
theorem iF.step3{e:TypeId}{a b c:Value}{B m i g cap:Nat}{w wr:World}(h:iF e [a,b,c] 3 B (.slice (some ⟨g,0,none⟩) m cap) m i w wr)(hi:i<m):iF e [a,b,c] 3 B (.slice (some ⟨g,0,none⟩) m cap) m (i+1) w (((wr.setCell ⟨g,i*3,none⟩ a).setCell ⟨g,i*3+1,none⟩ b).setCell ⟨g,i*3+2,none⟩ c):=by
 obtain⟨xs,h1,h2,h3⟩:=h;have hl:=h1.1;refine⟨_,pP (pP (pP h1 a) b) c,fun k hk j hj=>?_,rP (rP (rP h3 _ _) _ _) _ _⟩;simp only[Lm,List.length_nil]at hj⊢;by_cases hki:k=i
 ·subst hki
  rcases(show j=0\/j=1\/j=2 by omega)with rfl|rfl|rfl
  ·rw[List.getElem?_set_ne (by omega),List.getElem?_set_ne (by omega)];simp[List.getElem?_set];omega
  ·rw[List.getElem?_set_ne (by omega)];simp[List.getElem?_set];omega
  ·simp[List.getElem?_set];omega
 ·rw[List.getElem?_set_ne (by omega),List.getElem?_set_ne (by omega),List.getElem?_set_ne (by omega)]
  exact h2 k (by omega) j hj
theorem iF.done{e:TypeId}{E:List Value}{z B m:Nat}{v:Value}{w wr:World}(h:iF e E z B v m m w wr)(hz:z=E.length)(h0:0<z):wr.ownsRow B e z v m (jH E m):=by
 obtain⟨xs,h1,h2,h3⟩:=h;subst hz;rw[<-Iv h0 h1.1 h2];exact h1
theorem iF.grown{e:TypeId}{E:List Value}{z B m i:Nat}{v:Value}{w wr:World}(h:iF e E z B v m i w wr):w.grownBy wr v.ownBlock:=by
 obtain⟨xs,h1,h2,h3⟩:=h;exact h3
structure Ch(e:TypeId)(E:List Value)(w x:World)(B0 T b:Nat)(F:Nat->Value)(L:Nat->List SL)(A:Nat->Prop)(S:List SL)(v:Value)(n:Nat):Prop where
 own:x.ownsRow B0 e E.length v n (jH E n)
 bk:Bk x B0 b F L
 fm:Fm B0 A w x
 t:x.heap[T]?=some (.cells E.toArray e (0,0))
 ne:v.ownBlock≠some T
 ms:∀s∈S,Mk e E x A s/\s.2.1<=n
 va:∀g,v.ownBlock=some g->A g
theorem Ch.next{e:TypeId}{E:List Value}{w x x1:World}{B0 T b g k n cap:Nat}{a:Option Addr}{F:Nat->Value}{L:Nat->List SL}{A:Nat->Prop}{S:List SL}{o:Obj}(h:Ch e E w x B0 T b F L A S (.slice a n cap) n)(he:e=37\/e=34)(hn:n<=2000000)(hB:B0<=w.heap.size)(hA:∀g,w.heap.size<=g->A g)
 (hn1:x1.ownsRow B0 e E.length (.slice (some ⟨g,0,none⟩) (n+1) k) (n+1) (jH E n++E)) (ho1:x1.ownsRow B0 e E.length (.slice a n cap) n (jH E n)) (hg1:(x.alloc o).grownBy x1 (Value.slice a n cap).ownBlock) (hw1:(Value.slice a n cap).ownBlock=some g\/g=(x.alloc o).heap.size):Ch e E w x1 B0 T b F L A (S++[(a,n,cap)]) (.slice (some ⟨g,0,none⟩) (n+1) k) (n+1):=by
 have hb:Lt x (x.alloc o):=bA (KL _ _) _;have hal:∀s,Mk e E x A s->Mk e E (x.alloc o) A s:=fun s hs=>⟨hs.1,hs.2.imp (fun e=>e) (fun⟨g,cs,h1,h2,h3,h4⟩=>⟨g,cs,h1,h2,fO hb h3,h4⟩)⟩;have hsx:=h.fm.size;have hlT:=ag h.t;refine⟨by rw[wO];exact hn1,(h.bk.below hb).grown hg1 (h.own.alloc o) he,(h.fm.trans (Fm.of_below hb (by omega))).trans (Fm.grown hg1 (h.own.alloc o) (KK _) (by simp;omega) h.va),?_,?_,fun s hs=>?_,?_⟩
 ·exact(hg1.block T (by simp;omega) (fun q=>h.ne q.symm)).trans (fO hb h.t)
 ·intro q
  have q':g=T:=KY q;rcases hw1 with r|r
  ·exact h.ne (by rw[r,q'])
  ·simp at r;omega
 ·rcases List.mem_append.1 hs with q|q
  ·exact⟨(hal s (h.ms s q).1).step rfl (h.ms s q).2 hg1 ho1,by have:=(h.ms s q).2;omega⟩
  ·simp at q;subst q
   exact⟨Mk.of_own rfl ho1 (fun g hg=>h.va g hg) hn,Nat.le_succ n⟩
 ·intro g' q
  have q':g=g':=KY q;rcases hw1 with r|r
  ·exact h.va g' (by rw[r,q'])
  ·exact hA g' (by simp at r;omega)
theorem lR{w:World}{B:Nat}{e:TypeId}{v:Value}{L:List SL}(h:w.ownsRow B e 1 v L.length (L.map sv)):∃a cap,v=.slice a L.length cap/\(L=[]\/∃g,a=some ⟨g,0,none⟩/\∀i s,L[i]?=some s->w.cell? ⟨g,i,none⟩=some (sv s)):=by
 rcases h.2 with⟨hv,h0⟩|⟨g,cap,cur,hv,hg,hh,hr⟩
 ·exact⟨none,0,by rw[hv,h0],.inl (KZ h0)⟩
 ·refine⟨_,cap,hv,.inr ⟨g,rfl,fun i s hs=>?_⟩⟩
  have hil:i<L.length:=(KO.1 hs).1;rw[hv]at h;rw[h.cellAt i (by omega),La,hs];rfl
theorem lw.of{w:World}{B n:Nat}{e:TypeId}{v:Value}{L:List SL}{A:Nat->Prop}(h:w.ownsRow B e 1 v L.length (L.map sv))(hm:∀i s,L[i]?=some s->kw w A (i/n) s):lw w n v L:=by
 obtain⟨a,cap,hv,h2⟩:=lR h;refine⟨a,cap,hv,h2.imp (fun e=>e) ?_⟩;rintro⟨g,ha,hc⟩;refine⟨g,0,ha,fun i s hs=>⟨by rw[Nat.zero_add];exact hc i s hs,(hm i s hs).1,(hm i s hs).2.imp (fun e=>e) ?_⟩⟩;rintro⟨g',cs,e1,_,e2,e3⟩;refine⟨g',0,e1,fun k hk=>?_⟩;have c:=ae e2;exact⟨by rw[Nat.zero_add,c];exact e3 k hk 0 (by simp),by rw[Nat.zero_add,c];exact e3 k hk 1 (by simp),_,_,by rw[Nat.zero_add,c];exact e3 k hk 2 (by simp)⟩
theorem lk.of{w:World}{B n:Nat}{e:TypeId}{v:Value}{L:List SL}{A:Nat->Prop}(h:w.ownsRow B e 1 v L.length (L.map sv))(hm:∀i s,L[i]?=some s->ji w A (i/n) s):lk w n v L:=by
 obtain⟨a,cap,hv,h2⟩:=lR h;refine⟨a,cap,hv,h2.imp (fun e=>e) ?_⟩;rintro⟨g,ha,hc⟩;refine⟨g,0,ha,fun i s hs=>⟨by rw[Nat.zero_add];exact hc i s hs,(hm i s hs).1,(hm i s hs).2.imp (fun e=>e) ?_⟩⟩;rintro⟨g',cs,e1,_,e2,e3⟩;refine⟨g',0,e1,fun k hk=>?_⟩;have c:=ae e2;exact⟨by rw[Nat.zero_add,c];exact e3 k hk 0 (by simp),by rw[Nat.zero_add,c];exact e3 k hk 1 (by simp)⟩
theorem Bk.looks{w:World}{B0 b:Nat}{F:Nat->Value}{L:Nat->List SL}{A:Nat->Prop}(h:Bk w B0 b F L)(h0:∀i s,(L 0)[i]?=some s->kw w A (i/4) s)(h1:∀i s,(L 1)[i]?=some s->ji w A (i/4) s)(h3:∀i s,(L 3)[i]?=some s->kw w A i s)(h4:∀i s,(L 4)[i]?=some s->ji w A i s)
 (n0:(L 0).length<=2000000) (n1:(L 1).length<=2000000) (n3:(L 3).length<=2000000) (n4:(L 4).length<=2000000):qK w b (F 0) (F 1) (F 3) (F 4) (F 5) (F 6) (L 0) (L 1) (L 3) (L 4):=by
 refine⟨?_,lw.of (h.o 0) h0,lk.of (h.o 1) h1,lw.of (h.o 3) (fun i s hs=>by rw[Nat.div_one];exact h3 i s hs),lk.of (h.o 4) (fun i s hs=>by rw[Nat.div_one];exact h4 i s hs),n0,n1,n3,n4⟩;have:=h.bl;obtain⟨z1,z2,z3⟩:=h.z;rw[z1,z2,z3]at this;exact this
abbrev sQ:Ls:=⟨#[108,101,110,116]⟩
theorem Il(n:Nat)(hn:n<=2000000):∃M:Array Value,M.size=(n+1)*3/\∀W:World,(Instr.makeSlice 23 (.int .i64 ((n:Int)+1)) (.int .i64 ((n:Int)+1))).run prog W=.ok (.slice (some ⟨W.heap.size,0,none⟩) (n+1) (n+1)) (W.alloc (.cells M 37)):=by
 obtain⟨iY,hiY,zY0,zY1,zY2⟩:=info_parts info37;refine⟨madeCells (Value.agg #[.string ⟨#[]⟩,.string ⟨#[]⟩,.slice none 0 0]).cells ((n+1)*3),size_madeCells _ _,fun W=>?_⟩;have h:=run_make (P:=prog) W 23 37 iY _ underlying23 hiY zY0 .i64 .i64 ((n:Int)+1) ((n:Int)+1) (by omega) (by omega) (by rw[zY2];omega) (by omega);rw[show((n:Int)+1).toNat=n+1 by omega,zY1]at h;exact h
theorem Ho(n:Nat)(hn:n<=2000000):∃M:Array Value,M.size=(n+1)*2/\∀W:World,(Instr.makeSlice 35 (.int .i64 ((n:Int)+1)) (.int .i64 ((n:Int)+1))).run prog W=.ok (.slice (some ⟨W.heap.size,0,none⟩) (n+1) (n+1)) (W.alloc (.cells M 34)):=by
 obtain⟨iY,hiY,zY0,zY1,zY2⟩:=info_parts info34;refine⟨madeCells (Value.agg #[.string ⟨#[]⟩,.string ⟨#[]⟩]).cells ((n+1)*2),size_madeCells _ _,fun W=>?_⟩;have h:=run_make (P:=prog) W 35 34 iY _ underlying35 hiY zY0 .i64 .i64 ((n:Int)+1) ((n:Int)+1) (by omega) (by omega) (by rw[zY2];omega) (by omega);rw[show((n:Int)+1).toNat=n+1 by omega,zY1]at h;exact h
def nJ(w:World)(h:Nat)(l:List dd):Prop:=∃cs,w.heap[h]?=some (.cells cs 34 (0,0))/\cs.size=(l.length+1)*2/\(∀j c,l[j]?=some c->cs[j*2]?=some (.string c.1)/\cs[j*2+1]?=some (.string c.2))/\cs[l.length*2]?=some (.string sQ)/\cs[l.length*2+1]?=some (.string ⟨#[]⟩)
structure iB(w:World)(g:Nat)(ys:List bo)(hs:List Nat):Prop where
 len:hs.length<=ys.length
 rows:∃cs,w.heap[g]?=some (.cells cs 37 (0,0))/\cs.size=(ys.length+1)*3/\∀i y h,ys[i]?=some y->hs[i]?=some h->cs[i*3]?=some (.string y.1)/\cs[i*3+1]?=some (.string y.2.1)/\cs[i*3+2]?=some (.slice (some ⟨h,0,none⟩) y.2.2.length (y.2.2.length+1))
 cells:∀(i:Nat) y h,ys[i]?=some y->hs[i]?=some h->nJ w h y.2.2
 ord:hs.Pairwise (· < ·)
 gt:∀h∈hs,g<h/\h<w.heap.size
theorem nJ.block{w w':World}{h:Nat}{l:List dd}(k:nJ w h l)(e:w'.heap[h]?=w.heap[h]?):nJ w' h l:=by
 obtain⟨cs,h1,h2⟩:=k;exact⟨cs,e.trans h1,h2⟩
theorem iB.below{w w':World}{g:Nat}{ys:List bo}{hs:List Nat}(k:iB w g ys hs)(hb:Lt w w'):iB w' g ys hs:=by
 obtain⟨cs,h1,h2⟩:=k.rows;exact⟨k.len,⟨cs,fO hb h1,h2⟩,fun i y h hy hh=>(k.cells i y h hy hh).block (hb.block h (k.gt h (KN hh)).2),k.ord,fun h hh=>⟨(k.gt h hh).1,KV (k.gt h hh).2 hb.size⟩⟩
theorem iB.drew{w:World}{g:Nat}{ys:List bo}{hs:List Nat}(k:iB w g ys hs):iB w.drew g ys hs:=⟨k.len,k.rows,k.cells,k.ord,k.gt⟩
theorem iB.push{w:World}{g N i:Nat}{ys:List bo}{hs:List Nat}{y:bo}(k:iB w g ys hs)(hi:hs.length=i)(hy:ys[i]?=some y)(hN:nJ w N y.2.2)(hg:g<N)(hh:∀h∈hs,h<N)(hNl:N<w.heap.size):iB (((w.setCell ⟨g,i*3,none⟩ (.string y.1)).setCell ⟨g,i*3+1,none⟩ (.string y.2.1)).setCell ⟨g,i*3+2,none⟩ (.slice (some ⟨N,0,none⟩) y.2.2.length (y.2.2.length+1))) g ys (hs++[N]):=by
 subst hi;have hil:=(KO.1 hy).1;obtain⟨cs,h1,h2,h3⟩:=k.rows;have ho:∀j,j≠g->(((w.setCell ⟨g,hs.length*3,none⟩ (.string y.1)).setCell ⟨g,hs.length*3+1,none⟩ (.string y.2.1)).setCell ⟨g,hs.length*3+2,none⟩ (.slice (some ⟨N,0,none⟩) y.2.2.length (y.2.2.length+1))).heap[j]?=w.heap[j]?:=fun j hj=>(KX _ _ _ _ hj).trans ((KX _ _ _ _ hj).trans (KX _ _ _ _ hj));refine⟨by simp;omega,⟨_,aJ (aJ (aJ h1 _ _) _ _) _ _,by simp[h2],fun i z h hz hh=>?_⟩,fun i z h hz hh=>?_,?_,fun h hh'=>?_⟩
 ·by_cases hi:i<hs.length
  ·rw[Lf hi]at hh
   obtain⟨q0,q1,q2⟩:=h3 i z h hz hh;refine⟨?_,?_,?_⟩<;>(rw[Ln (by omega),Ln (by omega),Ln (by omega)];assumption)
  ·rw[Lg (by omega)]at hh
   have hi0:i=hs.length:=by have:=(KO.1 hh).1;simp at this;omega
   subst hi0;simp at hh;subst hh;rw[hy]at hz;cases hz;refine⟨?_,?_,?_⟩
   ·rw[Ln (by omega),Ln (by omega),Array.getElem?_setIfInBounds_self_of_lt (by omega)]
   ·rw[Ln (by omega),Array.getElem?_setIfInBounds_self_of_lt (by simp;omega)]
   ·rw[Array.getElem?_setIfInBounds_self_of_lt (by simp;omega)]
 ·by_cases hi:i<hs.length
  ·rw[Lf hi]at hh
   exact(k.cells i z h hz hh).block (ho h (by have:=(k.gt h (KN hh)).1;omega))
  ·rw[Lg (by omega)]at hh
   have hi0:i=hs.length:=by have:=(KO.1 hh).1;simp at this;omega
   subst hi0;simp at hh;subst hh;rw[hy]at hz;cases hz;exact hN.block (ho _ (by omega))
 ·rw[List.pairwise_append]
  exact⟨k.ord,List.pairwise_singleton _ _,fun a ha b hb=>by simp at hb;subst hb;exact hh a ha⟩
 ·rcases List.mem_append.1 hh' with q|q
  ·exact⟨(k.gt h q).1,by simpa [World.setCell]using(k.gt h q).2⟩
  ·simp at q;subst q;exact⟨hg,by simpa [World.setCell]using hNl⟩
theorem iB.mark{w:World}{g:Nat}{ys:List bo}{hs:List Nat}(k:iB w g ys hs)(u v z:Value):iB (((w.setCell ⟨g,ys.length*3,none⟩ u).setCell ⟨g,ys.length*3+1,none⟩ v).setCell ⟨g,ys.length*3+2,none⟩ z) g ys hs/\(((w.setCell ⟨g,ys.length*3,none⟩ u).setCell ⟨g,ys.length*3+1,none⟩ v).setCell ⟨g,ys.length*3+2,none⟩ z).cell? ⟨g,ys.length*3+1,none⟩=some v:=by
 obtain⟨cs,h1,h2,h3⟩:=k.rows;have hb:=aJ (aJ (aJ h1 (ys.length*3) u) (ys.length*3+1) v) (ys.length*3+2) z;have ho:∀j,j≠g->(((w.setCell ⟨g,ys.length*3,none⟩ u).setCell ⟨g,ys.length*3+1,none⟩ v).setCell ⟨g,ys.length*3+2,none⟩ z).heap[j]?=w.heap[j]?:=fun j hj=>(KX _ _ _ _ hj).trans ((KX _ _ _ _ hj).trans (KX _ _ _ _ hj));refine⟨⟨k.len,⟨_,hb,by simp[h2],fun i y h hy hh=>?_⟩,fun i y h hy hh=>(k.cells i y h hy hh).block (ho h (by have:=(k.gt h (KN hh)).1;omega)),k.ord,fun h hh=>⟨(k.gt h hh).1,by simpa [World.setCell]using(k.gt h hh).2⟩⟩,?_⟩
 ·have hi:=(KO.1 hy).1
  obtain⟨q0,q1,q2⟩:=h3 i y h hy hh;refine⟨?_,?_,?_⟩<;>(rw[Ln (by omega),Ln (by omega),Ln (by omega)];assumption)
 ·rw[ae hb,Ln (by omega),Array.getElem?_setIfInBounds_self_of_lt (by simp;omega)]
theorem sR(l:List dd):(l.flatMap et).length=l.length*2:=by
 induction l with
 |nil=>rfl
 |cons c l ih=>rw[List.flatMap_cons,Lb,ih];show 2+_=_;rw[Lm];omega
theorem Kf(l:List dd):∀u∈l.flatMap et,u.oneCell'=true:=by
 intro u hu;rw[List.mem_flatMap]at hu;obtain⟨c,_,hc⟩:=hu;simp[et]at hc;rcases hc with rfl|rfl<;>rfl
theorem Io{l:List dd}{j:Nat}{v:Value}(h:(l.flatMap et)[j]?=some v):∃c,l[j/2]?=some c/\(et c)[j%2]?=some v:=by
 have hl:j<l.length*2:=by rw[<-sR];exact(KO.1 h).1
 obtain⟨c,hc⟩:∃c,l[j/2]?=some c:=⟨_,KM (by omega)⟩;refine⟨c,hc,?_⟩;have:=sj l (j/2) c (j%2) hc (by omega);rw[show j/2*2+j%2=j by omega]at this;rw[<-this];exact h
theorem kK.src{w:World}{a:Option Addr}{cap:Nat}{l:List dd}(h:kK w (.slice a l.length cap) l):l.length=0\/∃ad,a=some ad/\∀j v,(l.flatMap et)[j]?=some v->w.cell? (ad.add j)=some v:=by
 obtain⟨a',LM,e1,h2,h3⟩:=h;cases e1;rcases h3 with e|⟨g,off,e,h4⟩
 ·exact .inl (by rw[e];rfl)
 ·refine .inr ⟨_,e,fun j v hv=>?_⟩
  obtain⟨c,hc,hv⟩:=Io hv;have h5:=h4 _ c hc;have ha:(⟨g,off,none⟩:Addr).add j=⟨g,off+j,none⟩:=by unfold Addr.add;split<;>simp_all
  rw[ha];rcases(show j%2=0\/j%2=1 by omega)with q|q
  ·rw[q]at hv;cases hv
   rw[show off+j=off+j/2*2 by omega];exact h5.1
  ·rw[q]at hv;cases hv
   rw[show off+j=off+j/2*2+1 by omega];exact h5.2
theorem G4{w1:World}{h:Nat}{l:List dd}{MC:Array Value}(hk:w1.heap[h]?=some (.cells (l.flatMap et++MC.toList.drop (l.flatMap et).length).toArray 34 (0,0)))(hM:MC.size=(l.length+1)*2):
 (∃u,w1.cell? ⟨h,l.length*2,none⟩=some u)/\(∃u,w1.cell? ⟨h,l.length*2+1,none⟩=some u)/\(∀j,w1.frozen? ⟨h,j,none⟩=false)/\nJ ((w1.setCell ⟨h,l.length*2,none⟩ (.string sQ)).setCell ⟨h,l.length*2+1,none⟩ (.string ⟨#[]⟩)) h l:=by
 have hl:=sR l;have hs:(l.flatMap et++MC.toList.drop (l.flatMap et).length).toArray.size=(l.length+1)*2:=by simp[hM,hl];omega
 have hg:∀j c,l[j]?=some c->(l.flatMap et++MC.toList.drop (l.flatMap et).length).toArray[j*2]?=some (.string c.1)/\(l.flatMap et++MC.toList.drop (l.flatMap et).length).toArray[j*2+1]?=some (.string c.2):=fun j c hc=>by
  have hj:=(KO.1 hc).1;refine⟨?_,?_⟩<;>rw[List.getElem?_toArray,Lf (by omega)]
  ·exact sj l j c 0 hc (by omega)
  ·exact sj l j c 1 hc (by omega)
 generalize (l.flatMap et++MC.toList.drop (l.flatMap et).length).toArray=A at*;have c:=ae hk;refine⟨⟨_,(c _).trans (Array.getElem?_eq_getElem (by omega))⟩,⟨_,(c _).trans (Array.getElem?_eq_getElem (by omega))⟩,ar hk,_,aJ (aJ hk _ _) _ _,by simp[hs],fun j x hx=>?_,?_,?_⟩
 ·have hj:=(KO.1 hx).1
  rw[Ln (by omega),Ln (by omega),Ln (by omega),Ln (by omega)];exact hg j x hx
 ·rw[Ln (by omega),Array.getElem?_setIfInBounds_self_of_lt (by omega)]
 ·rw[Array.getElem?_setIfInBounds_self_of_lt (by simp;omega)]
theorem size34:(prog.info? 34).map (·.size)=some 2:=by kernel_rfl
theorem Et(w:World)(b:Nat)(aY:Option Addr)(cY:Nat)(ys:List bo)(hY:eM w (.slice aY ys.length cY) ys)(hyl:ys.length<=1000000)(hcl:∀y∈ys,y.2.2.length<=1000000):
 Calls prog 12 #[.pointer (some ⟨b,0,none⟩),.slice aY ys.length cY] w fun e w'=>∃hs,e=.returned (.slice (some ⟨w.heap.size,0,none⟩) ys.length (ys.length+1))/\hs.length=ys.length/\iB w' w.heap.size ys hs/\w'.cell? ⟨w.heap.size,ys.length*3+1,none⟩=some (.string sQ)/\Lt w w':=by
 obtain⟨M,hM,hmk⟩:=Il ys.length (by omega);have HY:=aa hY;have HCL:=aa hcl;clear hY hcl;go_enter func12,ntmps12;go_wp2_with fail;go_loopg [6,7,8] ys.length (fun mm v6 v7 v8 wr=>∃(i:Nat) (hs:List Nat),v6=.int .i64 i/\i<=ys.length/\ys.length-i<=mm/\hs.length=i/\iB wr w.heap.size ys hs/\Lt w wr)
 case atStart=>
  refine⟨0,[],rfl,KU _,KK _,rfl,⟨KU _,⟨M,KS w _,hM,fun i y h _ hh=>by simp at hh⟩,fun i y h _ hh=>by simp at hh,List.Pairwise.nil,fun h hh=>by simp at hh⟩,bA (KL _ _) _⟩
 case round=>
  obtain⟨i,hs,rfl,hil,hmm,hhs,hL,hb⟩:=hrel;have HL:=aa hL;have HB:=aa hb;clear hL hb;by_cases hlt:i<ys.length
  ·obtain⟨y,hy⟩:∃y,ys[i]?=some y:=⟨_,KM hlt⟩
   obtain⟨gY,oY,aC,cC,e,y0,y1,y2,hC⟩:=(HY.o.below HB.o).at hy;subst e;have hgY:gY<wr.heap.size:=KQ wr _ y0;have hcy:=HCL.o y (KN hy);obtain⟨MC,hMC,hmc⟩:=Ho y.2.2.length (by omega);have HC:=aa hC;have HMC:=aa hMC;clear hC hMC hmk;go_wp2_with (refine Df rfl _ _ 35 35 rfl 34 2 underlying35 size34 wr.heap.size _ _ _ _ _ rfl rfl ?_ MC 34 ?_ (y.2.2.flatMap et) ?_ ?_ ?_ ?_ wr.heap.size wr ?_ ?_ ?_;omega;exact KS wr _;exact sR _;exact(HC.o.below (bA (KL _ _) _)).src;(rw[sR,HMC.o];omega);exact Kf _;exact bA (KL _ _) _;exact KK _;intro w1 hk1 hb1 hz1 ho1;obtain⟨⟨u0,e0⟩,⟨u1,e1⟩,ef,hLC⟩:=G4 hk1.o HMC.o;have HLC:=aa hLC;have HB1:=aa hb1;have HO1:=aa ho1;have hlw1:wr.heap.size<w1.heap.size:=(by rw[hz1];simp);clear hLC hb1 ho1 hk1);have hbz:Lt wr ((w1.setCell ⟨wr.heap.size,y.2.2.length*2,none⟩ (.string ⟨#[108,101,110,116]⟩)).setCell ⟨wr.heap.size,y.2.2.length*2+1,none⟩ (.string ⟨#[]⟩)):=bS (bS HB1.o _ (KK _) _) _ (KK _) _;have hz2:wr.heap.size<((w1.setCell ⟨wr.heap.size,y.2.2.length*2,none⟩ (.string ⟨#[108,101,110,116]⟩)).setCell ⟨wr.heap.size,y.2.2.length*2+1,none⟩ (.string ⟨#[]⟩)).heap.size:=by simpa [World.setCell]using hlw1
   generalize (w1.setCell ⟨wr.heap.size,y.2.2.length*2,none⟩ (.string ⟨#[108,101,110,116]⟩)).setCell ⟨wr.heap.size,y.2.2.length*2+1,none⟩ (.string ⟨#[]⟩)=w2 at*;have HBZ:=aa hbz;have HL2:=aa (HL.o.below hbz);have y0:=ao hbz y0;have y1:=ao hbz y1;have hgY:gY<w2.heap.size:=by have:=hbz.size;omega
   obtain⟨cs,hcb,hcs,hcr⟩:=HL2.o.rows;obtain⟨v0,d0⟩:∃u,w2.cell? ⟨w.heap.size,i*3,none⟩=some u:=⟨_,(ae hcb _).trans (Array.getElem?_eq_getElem (by omega))⟩;obtain⟨v1,d1⟩:∃u,w2.cell? ⟨w.heap.size,i*3+1,none⟩=some u:=⟨_,(ae hcb _).trans (Array.getElem?_eq_getElem (by omega))⟩;obtain⟨v2,d2⟩:∃u,w2.cell? ⟨w.heap.size,i*3+2,none⟩=some u:=⟨_,(ae hcb _).trans (Array.getElem?_eq_getElem (by omega))⟩;have fd:=ar hcb;have hlg:=ag hcb;clear hbz hcb hcr y2 e0 e1 ef HB1 HO1 hlw1 hmc;go_region;all_goals(try go_wp2_with fail)
   all_goals(
    go_roundg (ys.length-(i+1))
    case measure=>omega
    case rel=>
     refine⟨i+1,hs++[wr.heap.size],by go_num,by omega,KK _,by simp;omega,?_,?_⟩
     ·exact(HL2.o.push hhs hy HLC.o (KV (by have:=HL.o.rows;obtain⟨_,q,_⟩:=this;exact ag q) (KK _)) (fun h hh=>(HL.o.gt h hh).2) hz2).drew
     ·exact(bS (bS (bS (bT HB.o HBZ.o) _ (KK _) _) _ (KK _) _) _ (KK _) _).drew)
  ·have hie:i=ys.length:=by omega
   obtain⟨cs,hcb,hcs,hcr⟩:=HL.o.rows;obtain⟨v0,d0⟩:∃u,wr.cell? ⟨w.heap.size,ys.length*3,none⟩=some u:=⟨_,(ae hcb _).trans (Array.getElem?_eq_getElem (by omega))⟩;obtain⟨v1,d1⟩:∃u,wr.cell? ⟨w.heap.size,ys.length*3+1,none⟩=some u:=⟨_,(ae hcb _).trans (Array.getElem?_eq_getElem (by omega))⟩;obtain⟨v2,d2⟩:∃u,wr.cell? ⟨w.heap.size,ys.length*3+2,none⟩=some u:=⟨_,(ae hcb _).trans (Array.getElem?_eq_getElem (by omega))⟩;have fd:=ar hcb;have hlg:=ag hcb;have HCB:=aa hcb;have HCR:=aa hcr;clear hcb hcr;subst hie;go_wp2_with fail;go_ret;exact⟨hs,rfl,hhs,(HL.o.mark _ _ _).1,(HL.o.mark _ _ _).2,bS (bS (bS HB.o _ (KK _) _) _ (KK _) _) _ (KK _) _⟩
theorem info35:(prog.info? 35).map (fun i=>(i.zero,i.size,i.bytes))=some (some (.slice none 0 0),1,24):=by kernel_rfl
theorem info23:(prog.info? 23).map (fun i=>(i.zero,i.size,i.bytes))=some (some (.slice none 0 0),1,24):=by kernel_rfl
theorem underlying28:prog.underlying 28=some (.slice 35):=by kernel_rfl
theorem underlying27:prog.underlying 27=some (.slice 23):=by kernel_rfl
theorem IZ(w:World)(B0 b:Nat)(F:Nat->Value)(L:Nat->List SL)(h:Bk w B0 b F L)(hB:B0<=w.heap.size)(l:Value)(m q:Nat)(xs:List Value)(hl:w.ownsRow B0 34 2 l m xs)(hm:m<=1000000)(hq:(L 1).length=q*4)(hq2:q<=400000):
 Calls prog 30 #[.pointer (some ⟨b,0,none⟩),l] w fun e w'=>e=.returned (.tuple #[])/\∃v new,new.length=4/\Bk w' B0 b (bn F 1 v) (bn L 1 (L 1++new))/\(∀s∈new,ji w' (fun g=>l.ownBlock=some g\/w.heap.size<=g) q s)/\Fm B0 (fun k=>l.ownBlock=some k) w w':=by
 obtain⟨iC,hiC,zC0,zC1,zC2⟩:=info_parts info34;obtain⟨iL,hiL,zL0,zL1,zL2⟩:=info_parts info35;obtain⟨aL,cL,rfl⟩:=bc hl;obtain⟨a1,c1,hF1, -⟩:=lR (h.o 1);rw[hq]at hF1;have hbl:=h.bl;rw[hF1]at hbl;have c:=ae hbl;have hlb:=ag hbl;have H:=aa h;have HL:=aa hl;clear h hl hbl;go_enter func30,ntmps30;go_wp2_with fail;refine(ox q w (by omega)).mono ?_;rintro _ w1 ⟨rfl,b1⟩;have HB1:=aa b1;have Nq:=b1.size;clear c b1;go_wp2_with fail;have hT:=KS w1 (.cells #[.string (dM q),.string ⟨#[]⟩] 34);have HB2:=aa (bA HB1.o (.cells #[.string (dM q),.string ⟨#[]⟩] 34));have HL2:=aa (bZ HL.o HB2.o);have NE:(Value.slice aL m cL).ownBlock≠some w1.heap.size:=fun e=>by have:=ep HL.o _ e;omega
 generalize hwT:w1.alloc (.cells #[.string (dM q),.string ⟨#[]⟩] 34)=wT at*;generalize w1.heap.size=T at*;have HT:=aa hT;clear hT;go_loopg [5] m (fun mm v5 wr=>∃i:Nat,v5=.int .i64 i/\i<=m/\m-i<=mm/\iF 34 (eC q) 2 B0 (.slice aL m cL) m i wT wr)
 case atStart=>exact⟨0,rfl,KU _,KK _,iF.start HL2.o⟩
 case round=>
  obtain⟨i,rfl,hil,hmm,hf⟩:=hrel;have hTr:=(hf.grown.block T (ag HT.o) (fun e=>NE e.symm)).trans HT.o;have cT:=ae hTr;have hlT:=ag hTr;have HTR:=aa hTr;have HF:=aa hf;clear hf hTr;by_cases hlt:i<m
  ·obtain⟨xs',ho, -, -⟩:=HF.o
   obtain⟨gL,cL',e,_,hgl⟩:=ho.form (by omega);cases e;have hxl:=ho.1;obtain⟨u0,c0⟩:∃u,wr.cell? ⟨gL,i*2,none⟩=some u:=⟨_,(ho.cellAt (i*2) (by omega)).trans (KM (by omega))⟩;obtain⟨u1,c1⟩:∃u,wr.cell? ⟨gL,i*2+1,none⟩=some u:=⟨_,(ho.cellAt (i*2+1) (by omega)).trans (KM (by omega))⟩;have fX:=ho.frozenAt;have hTg:T≠gL:=fun e=>NE (by rw[e];rfl);clear ho;go_wp2_with fail;go_roundg (m-(i+1))
   case measure=>omega
   case rel=>exact⟨i+1,by go_num,by omega,KK _,HF.o.step2 hlt⟩
  ·have hie:i=m:=by omega
   subst hie;have hA:∀g,w.heap.size<=g->((Value.slice aL i cL).ownBlock=some g\/w.heap.size<=g):=fun _ hg=>Or.inr hg;have HC0:=aa (show Ch 34 (eC q) w wr B0 T b F L (fun g=>(Value.slice aL i cL).ownBlock=some g\/w.heap.size<=g) [] (.slice aL i cL) i from
    ⟨HF.o.done rfl (by decide),(H.o.below HB2.o).grown HF.o.grown HL2.o (.inr rfl),(Fm.of_below HB2.o hB).trans (Fm.grown HF.o.grown HL2.o (KK _) (by have:=HB2.o.size;omega) (fun _ e=>.inl e)),HTR.o,NE,fun s hs=>by simp at hs,fun _ e=>.inl e⟩)
   have hsw0:=HC0.o.fm.size;clear HF HTR;go_wp2_with (at_builtin;first|(refine qc _ rfl _ _ 35 rfl B0 34 iC _ 2 32 underlying35 hiC zC0 zC1 zC2 rfl (by decide) _ _ _ rfl (HC0.o.own.alloc _) ⟨wr.heap.size,0,none⟩ 1 1 (eC q) rfl rfl (de _ _ _ _ (by simp)) (xq q) (by decide) (by unfold maxLen;omega) (by omega) (by have:=hsw0;simp;omega) ?_;intro g1 k1 x1 hn1 ho1 hg1 hw1 hl1;have HC1:=aa (HC0.o.next (.inr rfl) (by omega) hB hA hn1 ho1 hg1 hw1);have ht1:x1.heap[T]?=some (.cells #[.string (dM q),.string ⟨#[]⟩] 34 (0,0)):=HC1.o.t;have cT:=ae ht1;have hlT:=ag ht1;have hsw1:=HC1.o.fm.size;clear hn1 ho1 hg1 hw1 hl1 ht1)|(refine qc _ rfl _ _ 35 rfl B0 34 iC _ 2 32 underlying35 hiC zC0 zC1 zC2 rfl (by decide) _ _ _ rfl (HC1.o.own.alloc _) ⟨x1.heap.size,0,none⟩ 1 1 (eC q) rfl rfl (de _ _ _ _ (by simp)) (xq q) (by decide) (by unfold maxLen;omega) (by omega) (by have:=hsw1;simp;omega) ?_;intro g2 k2 x2 hn1 ho1 hg1 hw1 hl1;have HC2:=aa (HC1.o.next (.inr rfl) (by omega) hB hA hn1 ho1 hg1 hw1);have ht2:x2.heap[T]?=some (.cells #[.string (dM q),.string ⟨#[]⟩] 34 (0,0)):=HC2.o.t;have cT:=ae ht2;have hlT:=ag ht2;have hsw2:=HC2.o.fm.size;clear hn1 ho1 hg1 hw1 hl1 ht2)|(refine qc _ rfl _ _ 35 rfl B0 34 iC _ 2 32 underlying35 hiC zC0 zC1 zC2 rfl (by decide) _ _ _ rfl (HC2.o.own.alloc _) ⟨x2.heap.size,0,none⟩ 1 1 (eC q) rfl rfl (de _ _ _ _ (by simp)) (xq q) (by decide) (by unfold maxLen;omega) (by omega) (by have:=hsw2;simp;omega) ?_;intro g3 k3 x3 hn1 ho1 hg1 hw1 hl1;have HC3:=aa (HC2.o.next (.inr rfl) (by omega) hB hA hn1 ho1 hg1 hw1);have ht3:x3.heap[T]?=some (.cells #[.string (dM q),.string ⟨#[]⟩] 34 (0,0)):=HC3.o.t;have cT:=ae ht3;have hlT:=ag ht3;have hsw3:=HC3.o.fm.size;clear hn1 ho1 hg1 hw1 hl1 ht3;have hbl:x3.heap[b]?=some (.cells #[F 0,.slice a1 (q*4) c1,F 2,F 3,F 4,F 5,F 6,F 7,F 8] 31 (0,0)):=(by have:=HC3.o.bk.bl;rw[hF1]at this;exact this);have cb:=ae hbl;have fb:=ar hbl;have hlb:=ag hbl;have HBL3:=aa hbl;clear hbl;have HO1:=aa (show x3.ownsRow B0 35 1 (.slice a1 (q*4) c1) (q*4) ((L 1).map sv)from by have:=HC3.o.bk.o 1;rw[hF1,hq]at this;exact this))|(refine wpList_append_lies _ rfl _ _ 28 rfl B0 35 iL _ 1 24 underlying28 hiL zL0 zL1 zL2 rfl (by decide) _ _ _ rfl (HO1.o.alloc _) ⟨x3.heap.size,0,none⟩ 4 4 [.slice aL i cL,.slice (some ⟨g1,0,none⟩) (i+1) k1,.slice (some ⟨g2,0,none⟩) (i+1+1) k2,.slice (some ⟨g3,0,none⟩) (i+1+1+1) k3] rfl rfl (de _ _ _ _ (by simp)) (by intro u hu;simp at hu;rcases hu with rfl|rfl|rfl|rfl<;>rfl) (by decide) (by unfold maxLen;omega) (by omega) (by have:=hsw3;simp;omega) _ rfl ?_;intro g4 k4 x4 hn4 hg4 hw4 hl4;have hbl:x4.heap[b]?=some (.cells #[F 0,.slice a1 (q*4) c1,F 2,F 3,F 4,F 5,F 6,F 7,F 8] 31 (0,0)):=(hg4.block b (by have:=hlb;simp;omega) (fun e=>HC3.o.bk.ne 1 (by rw[hF1];exact e.symm))).trans (fO (bA (KL _ _) _) HBL3.o);have cb:=ae hbl;have fb:=ar hbl;have hlb:=ag hbl;have HBL4:=aa hbl;clear hbl));have hbz:=bA (KL x3.heap.size x3) (.cells #[.slice aL i cL,.slice (some ⟨g1,0,none⟩) (i+1) k1,.slice (some ⟨g2,0,none⟩) (i+1+1) k2,.slice (some ⟨g3,0,none⟩) (i+1+1+1) k3] 35);have NY:(x3.alloc (.cells #[.slice aL i cL,.slice (some ⟨g1,0,none⟩) (i+1) k1,.slice (some ⟨g2,0,none⟩) (i+1+1) k2,.slice (some ⟨g3,0,none⟩) (i+1+1+1) k3] 35)).grownBy x4 (F 1).ownBlock:=by rw[hF1];exact hg4
   have hfm:∀(K:Nat->Prop),Fm B0 K x3 (x4.setCell ⟨b,1,none⟩ (.slice (some ⟨g4,0,none⟩) (q*4+4) k4)):=fun K=>(Fm.of_below hbz (by omega)).trans ((HC3.o.bk.below hbz).grow_fm (by simp;omega) NY);go_end0;refine⟨rfl,.slice (some ⟨g4,0,none⟩) (q*4+4) k4,[(aL,i,cL),(some ⟨g1,0,none⟩,i+1,k1),(some ⟨g2,0,none⟩,i+1+1,k2),(some ⟨g3,0,none⟩,i+1+1+1,k3)],rfl,?_,?_,?_⟩
   ·exact(HC3.o.bk.below hbz).grow (by simp) NY (by rw[Lb,hq,Lr];exact hn4) rfl (hw4.imp (fun e=>by rw[hF1];exact e) (fun e=>by simp at e⊢;omega))
   ·have hms:∀s,ji x3 (fun g=>(Value.slice aL i cL).ownBlock=some g\/w.heap.size<=g) q s->ji (x4.setCell ⟨b,1,none⟩ (.slice (some ⟨g4,0,none⟩) (q*4+4) k4)) (fun g=>(Value.slice aL i cL).ownBlock=some g\/w.heap.size<=g) q s:=fun s hs=>hs.fm (.inr rfl) (hfm (fun _=>False)) (fun g _ hg _=>⟨fun e=>e,hg⟩)
    have hz:ji x3 (fun g=>(Value.slice aL i cL).ownBlock=some g\/w.heap.size<=g) q (some ⟨g3,0,none⟩,i+1+1+1,k3):=Mk.of_own rfl HC3.o.own HC3.o.va (by simp;omega);intro s hs;simp only[List.mem_cons,List.not_mem_nil,or_false]at hs;rcases hs with rfl|rfl|rfl|rfl
    ·exact hms _ (HC3.o.ms _ (by simp)).1
    ·exact hms _ (HC3.o.ms _ (by simp)).1
    ·exact hms _ (HC3.o.ms _ (by simp)).1
    ·exact hms _ hz
   ·exact(HC3.o.fm.trans (hfm _)).tidy (fun k hk e=>e.resolve_right (by omega))
structure Rw(w x:World)(B0 b q:Nat)(F F':Nat->Value)(L:Nat->List SL)(l:Value)(xs:List OX)(i:Nat)(N:List SL):Prop where
 bk:Bk x B0 b F' (bn L 1 (L 1++N))
 f:∀j,j≠1->F' j=F j
 n:N.length=i*4
 m:∀k s,N[k]?=some s->ji x (fun g=>(∃y∈xs.take i,y.2.ownBlock=some g)\/w.heap.size<=g) (q+k/4) s
 own:x.ownsRow B0 37 3 l xs.length (xs.flatMap nP)
 sub:∀j y,i<=j->xs[j]?=some y->x.ownsRow B0 34 2 y.2 y.1.2.2.length (y.1.2.2.flatMap et)
 fm:Fm B0 (fun g=>∃y∈xs,y.2.ownBlock=some g) w x
theorem Rw.next{w x x':World}{B0 b q i:Nat}{F F':Nat->Value}{L:Nat->List SL}{l v:Value}{xs:List OX}{N new:List SL}{y:OX}(h:Rw w x B0 b q F F' L l xs i N)(hl:dw w B0 l xs)(hi:xs[i]?=some y)(hn:new.length=4)(hb:Bk x' B0 b (bn F' 1 v) (bn (bn L 1 (L 1++N)) 1 (bn L 1 (L 1++N) 1++new)))(hm:∀s∈new,ji x' (fun g=>y.2.ownBlock=some g\/x.heap.size<=g) (q+i) s)(hf:Fm B0 (fun k=>y.2.ownBlock=some k) x x'):Rw w x' B0 b q F (bn F' 1 v) L l xs (i+1) (N++new):=by
 have hil:i<xs.length:=(KO.1 hi).1;have hy:y∈xs:=KN hi;have htk:xs.take (i+1)=xs.take i++[y]:=by rw[Ld,hi];rfl
 have hsp:xs=xs.take i++(y::xs.drop (i+1)):=by
  have e:=(List.take_append_drop i xs).symm;rw[Lq hil,(KO.1 hi).2]at e;exact e
 have hd:=hl.dis;rw[hsp,List.pairwise_append]at hd;have hsz:=h.fm.size;have eL:bn (bn L 1 (L 1++N)) 1 (bn L 1 (L 1++N) 1++new)=bn L 1 (L 1++(N++new)):=by
  funext j;unfold bn;by_cases e:j=1<;>simp[e]
 rw[eL]at hb;refine⟨hb,fun j hj=>by unfold bn;rw[K8 hj];exact h.f j hj,by rw[Lb,h.n,hn];omega,fun k s hk=>?_,?_,fun j z hj hz=>?_,h.fm.trans (hf.mono (fun k e=>⟨y,hy,e⟩))⟩
 ·by_cases hkl:k<N.length
  ·rw[Lf hkl]at hk
   refine(h.m k s hk).fm (.inr rfl) hf (fun g _ hg _=>?_);rcases hg with⟨z,hz,e⟩|e
   ·exact⟨fun e'=>hd.2.2 z hz y (by simp) g e e',.inl ⟨z,by rw[htk];exact List.mem_append_left _ hz,e⟩⟩
   ·exact⟨fun e'=>by have:=ep (hl.sub y hy) g e';omega,.inr e⟩
  ·rw[Lg (by omega)]at hk
   have hk4:k-N.length<4:=by have:=(KO.1 hk).1;omega
   have hnn:=h.n;have e:q+k/4=q+i:=by omega
   rw[e];have:=hm s (KN hk);refine⟨this.1,this.2.imp (fun e=>e) ?_⟩;rintro⟨g,cs,h1,h2,h3⟩;exact⟨g,cs,h1,h2.imp (fun e=>⟨y,by rw[htk];simp,e⟩) (fun e=>by omega),h3⟩
 ·exact ta h.own (.inl rfl) hf (fun g e e'=>BD h.own (h.sub i y (KK _) hi) (by decide) g e' e)
 ·have hz':=h.sub j z (by omega) hz
  refine ta hz' (.inr rfl) hf (fun g e e'=>?_);have:z∈xs.drop (i+1):=by
   refine KN (i:=j-(i+1)) ?_;rw[List.getElem?_drop,show i+1+(j-(i+1))=j by omega];exact hz
  exact(List.pairwise_cons.1 hd.2.1).1 z this g e' e
theorem Rw.bl0{w x:World}{B0 b q q0 i:Nat}{F F':Nat->Value}{L:Nat->List SL}{l:Value}{xs:List OX}{N:List SL}(h:Rw w x B0 b q F F' L l xs i N)(hq:(L 0).length=q0*4):∃a c,F' 0=.slice a (q0*4) c/\x.heap[b]?=some (.cells #[.slice a (q0*4) c,F' 1,F' 2,F' 3,F' 4,F' 5,F' 6,F' 7,F' 8] 31 (0,0)):=by
 obtain⟨a1,c1,hF1, -⟩:=lR (h.bk.o 0);rw[show bn L 1 (L 1++N) 0=L 0 from rfl,hq]at hF1;exact⟨a1,c1,hF1,by have:=h.bk.bl;rw[hF1]at this;exact this⟩
theorem IJ(w:World)(B0 b:Nat)(F:Nat->Value)(L:Nat->List SL)(h:Bk w B0 b F L)(hB:B0<=w.heap.size)(l:Value)(xs:List OX)(hl:dw w B0 l xs)(hm:xs.length<=1000)(hcl:∀x∈xs,x.1.2.2.length<=1000000)(q q1:Nat)(hq:(L 0).length=q*4)(hq2:q<=1000)(hq1:(L 1).length=q1*4)(hq3:q1<=100000):
 Calls prog 17 #[.pointer (some ⟨b,0,none⟩),l] w fun e w'=>e=.returned (.tuple #[])/\∃F' N0 N1,N0.length=4/\N1.length=xs.length*4/\Bk w' B0 b F' (bn (bn L 1 (L 1++N1)) 0 (L 0++N0))/\(∀j,j≠0->j≠1->F' j=F j)/\(∀s∈N0,kw w' (fun g=>ez l xs g\/w.heap.size<=g) q s)/\(∀k s,N1[k]?=some s->ji w' (fun g=>ez l xs g\/w.heap.size<=g) (q1+k/4) s)/\Fm B0 (ez l xs) w w':=by
 obtain⟨iC,hiC,zC0,zC1,zC2⟩:=info_parts info37;obtain⟨iL,hiL,zL0,zL1,zL2⟩:=info_parts info23;obtain⟨aL,cL,rfl⟩:=bc hl.own;have hlb:=ag h.bl;have H:=aa h;have HL:=aa hl;have HCL:=aa hcl;clear h hl hcl;go_enter func17,ntmps17;go_wp2_with fail;go_loopg [4] xs.length (fun mm v4 wr=>∃(i:Nat) (F':Nat->Value) (N:List SL),v4=.int .i64 i/\i<=xs.length/\xs.length-i<=mm/\Rw w wr B0 b q1 F F' L (.slice aL xs.length cL) xs i N)
 case atStart=>
  refine⟨0,F,[],rfl,KU _,KK _,?_,fun _ _=>rfl,rfl,fun k s hk=>by simp at hk,HL.o.own,fun j y _ hy=>HL.o.sub y (KN hy),Fm.of_below (KL _ _) hB⟩;rw[show bn L 1 (L 1++[])=L from by funext j;unfold bn;by_cases e:j=1<;>simp[e]];exact H.o
 case round=>
  obtain⟨i,F',N,rfl,hil,hmm,hR⟩:=hrel;have HR:=aa hR;clear hR;have MM:=HR.o.fm.size;by_cases hlt:i<xs.length
  ·obtain⟨y,hy⟩:∃y,xs[i]?=some y:=⟨_,KM hlt⟩
   obtain⟨gL,cL',e,_,hgl⟩:=HR.o.own.form (by omega);cases e;have c2:wr.cell? ⟨gL,i*3+2,none⟩=some y.2:=by
    rw[HR.o.own.cellAt _ (by omega)];exact xm xs i y 2 hy (by omega)
   have hn1:(bn L 1 (L 1++N) 1).length=(q1+i)*4:=by have:=HR.o.n;simp[bn,hq1];omega
   have HCE:=aa (IZ wr B0 b F' _ HR.o.bk (by omega) y.2 _ (q1+i) _ (HR.o.sub i y (KK _) hy) (HCL.o y (KN hy)) hn1 (by omega));go_wp2_with fail;refine HCE.o.mono ?_;rintro _ w1 ⟨rfl,v,new,h1,h2,h3,h4⟩;have HR':=aa (HR.o.next HL.o hy h1 h2 h3 h4);clear h1 h2 h3 h4 HCE c2;go_wp2_with fail;go_roundg (xs.length-(i+1))
   case measure=>omega
   case rel=>exact⟨i+1,_,_,by go_num,by omega,KK _,HR'.o⟩
  ·have hie:i=xs.length:=by omega
   subst hie;obtain⟨wo,rfl⟩:∃wo:World,wo=wr:=⟨_,rfl⟩;obtain⟨a1,c1,hF1,hbl⟩:=HR.o.bl0 hq;have c:=ae hbl;have hlb:=ag hbl;clear hbl;go_wp2_with fail;refine(ox q wo (by omega)).mono ?_;rintro _ w1 ⟨rfl,b1⟩;have HB1:=aa b1;have Nq:=b1.size;clear c b1;go_wp2_with fail;have hT:=KS w1 (.cells #[.string ⟨#[]⟩,.string (dM q),.slice none 0 0] 37);have HB2:=aa (bA HB1.o (.cells #[.string ⟨#[]⟩,.string (dM q),.slice none 0 0] 37));have HL2:=aa (bZ HR.o.own HB2.o);have NE:(Value.slice aL xs.length cL).ownBlock≠some w1.heap.size:=fun e=>by have:=ep HR.o.own _ e;omega
   generalize hwT:w1.alloc (.cells #[.string ⟨#[]⟩,.string (dM q),.slice none 0 0] 37)=wT at*;generalize w1.heap.size=T at*;have HT:=aa hT;clear hT hwT;go_loopg [6] xs.length (fun mm v5 wr=>∃i:Nat,v5=.int .i64 i/\i<=xs.length/\xs.length-i<=mm/\iF 37 (eR q) 3 B0 (.slice aL xs.length cL) xs.length i wT wr)
   case atStart=>exact⟨0,rfl,KU _,KK _,iF.start HL2.o⟩
   case round=>
    obtain⟨i,rfl,hil,hmm,hf⟩:=hrel;have hTr:=(hf.grown.block T (ag HT.o) (fun e=>NE e.symm)).trans HT.o;have cT:=ae hTr;have hlT:=ag hTr;have HTR:=aa hTr;have HF:=aa hf;clear hf hTr;by_cases hlt:i<xs.length
    ·obtain⟨xs',ho, -, -⟩:=HF.o
     obtain⟨gL,cL',e,_,hgl⟩:=ho.form (by omega);cases e;have hxl:=ho.1;obtain⟨u0,c0⟩:∃u,wr.cell? ⟨gL,i*3,none⟩=some u:=⟨_,(ho.cellAt (i*3) (by omega)).trans (KM (by omega))⟩;obtain⟨u1,c1⟩:∃u,wr.cell? ⟨gL,i*3+1,none⟩=some u:=⟨_,(ho.cellAt (i*3+1) (by omega)).trans (KM (by omega))⟩;obtain⟨u2,c2⟩:∃u,wr.cell? ⟨gL,i*3+2,none⟩=some u:=⟨_,(ho.cellAt (i*3+2) (by omega)).trans (KM (by omega))⟩;have fX:=ho.frozenAt;have hTg:T≠gL:=fun e=>NE (by rw[e];rfl);clear ho;go_wp2_with fail;go_roundg (xs.length-(i+1))
     case measure=>omega
     case rel=>exact⟨i+1,by go_num,by omega,KK _,HF.o.step3 hlt⟩
    ·have hie:i=xs.length:=by omega
     subst hie;have hA:∀g,wo.heap.size<=g->((Value.slice aL xs.length cL).ownBlock=some g\/wo.heap.size<=g):=fun _ hg=>Or.inr hg;have hBo:B0<=wo.heap.size:=by omega
     have HC0:=aa (show Ch 37 (eR q) wo wr B0 T b F' (bn L 1 (L 1++N)) (fun g=>(Value.slice aL xs.length cL).ownBlock=some g\/wo.heap.size<=g) [] (.slice aL xs.length cL) xs.length from
      ⟨HF.o.done rfl (by decide),(HR.o.bk.below HB2.o).grown HF.o.grown HL2.o (.inl rfl),(Fm.of_below HB2.o hBo).trans (Fm.grown HF.o.grown HL2.o (KK _) (by have:=HB2.o.size;omega) (fun _ e=>.inl e)),HTR.o,NE,fun s hs=>by simp at hs,fun _ e=>.inl e⟩)
     have hsw0:=HC0.o.fm.size;clear HF HTR;go_wp2_with (at_builtin;first|(refine qc _ rfl _ _ 23 rfl B0 37 iC _ 3 56 underlying23 hiC zC0 zC1 zC2 rfl (by decide) _ _ _ rfl (HC0.o.own.alloc _) ⟨wr.heap.size,0,none⟩ 1 1 (eR q) rfl rfl (de _ _ _ _ (by simp)) (tw q) (by decide) (by unfold maxLen;omega) (by omega) (by have:=hsw0;simp;omega) ?_;intro g1 k1 x1 hn1 ho1 hg1 hw1 hl1;have HC1:=aa (HC0.o.next (.inl rfl) (by omega) hBo hA hn1 ho1 hg1 hw1);have ht1:x1.heap[T]?=some (.cells #[.string ⟨#[]⟩,.string (dM q),.slice none 0 0] 37 (0,0)):=HC1.o.t;have cT:=ae ht1;have hlT:=ag ht1;have hsw1:=HC1.o.fm.size;clear hn1 ho1 hg1 hw1 hl1 ht1)|(refine qc _ rfl _ _ 23 rfl B0 37 iC _ 3 56 underlying23 hiC zC0 zC1 zC2 rfl (by decide) _ _ _ rfl (HC1.o.own.alloc _) ⟨x1.heap.size,0,none⟩ 1 1 (eR q) rfl rfl (de _ _ _ _ (by simp)) (tw q) (by decide) (by unfold maxLen;omega) (by omega) (by have:=hsw1;simp;omega) ?_;intro g2 k2 x2 hn1 ho1 hg1 hw1 hl1;have HC2:=aa (HC1.o.next (.inl rfl) (by omega) hBo hA hn1 ho1 hg1 hw1);have ht2:x2.heap[T]?=some (.cells #[.string ⟨#[]⟩,.string (dM q),.slice none 0 0] 37 (0,0)):=HC2.o.t;have cT:=ae ht2;have hlT:=ag ht2;have hsw2:=HC2.o.fm.size;clear hn1 ho1 hg1 hw1 hl1 ht2)|(refine qc _ rfl _ _ 23 rfl B0 37 iC _ 3 56 underlying23 hiC zC0 zC1 zC2 rfl (by decide) _ _ _ rfl (HC2.o.own.alloc _) ⟨x2.heap.size,0,none⟩ 1 1 (eR q) rfl rfl (de _ _ _ _ (by simp)) (tw q) (by decide) (by unfold maxLen;omega) (by omega) (by have:=hsw2;simp;omega) ?_;intro g3 k3 x3 hn1 ho1 hg1 hw1 hl1;have HC3:=aa (HC2.o.next (.inl rfl) (by omega) hBo hA hn1 ho1 hg1 hw1);have ht3:x3.heap[T]?=some (.cells #[.string ⟨#[]⟩,.string (dM q),.slice none 0 0] 37 (0,0)):=HC3.o.t;have cT:=ae ht3;have hlT:=ag ht3;have hsw3:=HC3.o.fm.size;clear hn1 ho1 hg1 hw1 hl1 ht3;have hbl:x3.heap[b]?=some (.cells #[.slice a1 (q*4) c1,F' 1,F' 2,F' 3,F' 4,F' 5,F' 6,F' 7,F' 8] 31 (0,0)):=(by have:=HC3.o.bk.bl;rw[hF1]at this;exact this);have cb:=ae hbl;have fb:=ar hbl;have hlb:=ag hbl;have HBL3:=aa hbl;clear hbl;have HO1:=aa (show x3.ownsRow B0 23 1 (.slice a1 (q*4) c1) (q*4) ((L 0).map sv)from by have:=HC3.o.bk.o 0;rw[hF1,show bn L 1 (L 1++N) 0=L 0 from rfl,hq]at this;exact this))|(refine wpList_append_lies _ rfl _ _ 27 rfl B0 23 iL _ 1 24 underlying27 hiL zL0 zL1 zL2 rfl (by decide) _ _ _ rfl (HO1.o.alloc _) ⟨x3.heap.size,0,none⟩ 4 4 [.slice aL xs.length cL,.slice (some ⟨g1,0,none⟩) (xs.length+1) k1,.slice (some ⟨g2,0,none⟩) (xs.length+1+1) k2,.slice (some ⟨g3,0,none⟩) (xs.length+1+1+1) k3] rfl rfl (de _ _ _ _ (by simp)) (by intro u hu;simp at hu;rcases hu with rfl|rfl|rfl|rfl<;>rfl) (by decide) (by unfold maxLen;omega) (by omega) (by have:=hsw3;simp;omega) _ rfl ?_;intro g4 k4 x4 hn4 hg4 hw4 hl4;have hbl:x4.heap[b]?=some (.cells #[.slice a1 (q*4) c1,F' 1,F' 2,F' 3,F' 4,F' 5,F' 6,F' 7,F' 8] 31 (0,0)):=(hg4.block b (by have:=hlb;simp;omega) (fun e=>HC3.o.bk.ne 0 (by rw[hF1];exact e.symm))).trans (fO (bA (KL _ _) _) HBL3.o);have cb:=ae hbl;have fb:=ar hbl;have hlb:=ag hbl;have HBL4:=aa hbl;clear hbl));have hbz:=bA (KL x3.heap.size x3) (.cells #[.slice aL xs.length cL,.slice (some ⟨g1,0,none⟩) (xs.length+1) k1,.slice (some ⟨g2,0,none⟩) (xs.length+1+1) k2,.slice (some ⟨g3,0,none⟩) (xs.length+1+1+1) k3] 23);have NY:(x3.alloc (.cells #[.slice aL xs.length cL,.slice (some ⟨g1,0,none⟩) (xs.length+1) k1,.slice (some ⟨g2,0,none⟩) (xs.length+1+1) k2,.slice (some ⟨g3,0,none⟩) (xs.length+1+1+1) k3] 23)).grownBy x4 (F' 0).ownBlock:=by rw[hF1];exact hg4
     have hfm:∀(K:Nat->Prop),Fm B0 K x3 (x4.setCell ⟨b,0,none⟩ (.slice (some ⟨g4,0,none⟩) (q*4+4) k4)):=fun K=>(Fm.of_below hbz (by omega)).trans ((HC3.o.bk.below hbz).grow_fm (by simp;omega) NY);have hfo:Fm B0 (fun g=>(Value.slice aL xs.length cL).ownBlock=some g\/wo.heap.size<=g) wo _:=HC3.o.fm.trans (hfm _);have hA':∀g,((Value.slice aL xs.length cL).ownBlock=some g\/wo.heap.size<=g)->(ez (Value.slice aL xs.length cL) xs g\/w.heap.size<=g):=fun g hg=>hg.imp (fun e=>.inl e) (fun e=>by omega);go_end0;refine⟨rfl,bn F' 0 (.slice (some ⟨g4,0,none⟩) (q*4+4) k4),[(aL,xs.length,cL),(some ⟨g1,0,none⟩,xs.length+1,k1),(some ⟨g2,0,none⟩,xs.length+1+1,k2),(some ⟨g3,0,none⟩,xs.length+1+1+1,k3)],N,rfl,HR.o.n,?_,fun j h0 h1=>?_,?_,fun k s hk=>?_,?_⟩
     ·exact(HC3.o.bk.below hbz).grow (by simp) NY (by rw[show bn L 1 (L 1++N) 0=L 0 from rfl,Lb,hq,Lr];exact hn4) rfl (hw4.imp (fun e=>by rw[hF1];exact e) (fun e=>by simp at e⊢;omega))
     ·unfold bn;rw[K8 h0];exact HR.o.f j h1
     ·have hms:∀s,kw x3 (fun g=>(Value.slice aL xs.length cL).ownBlock=some g\/wo.heap.size<=g) q s->kw (x4.setCell ⟨b,0,none⟩ (.slice (some ⟨g4,0,none⟩) (q*4+4) k4)) (fun g=>ez (Value.slice aL xs.length cL) xs g\/w.heap.size<=g) q s:=fun s hs=>hs.fm (.inl rfl) (hfm (fun _=>False)) (fun g _ hg _=>⟨fun e=>e,hA' g hg⟩)
      have hz:kw x3 (fun g=>(Value.slice aL xs.length cL).ownBlock=some g\/wo.heap.size<=g) q (some ⟨g3,0,none⟩,xs.length+1+1+1,k3):=Mk.of_own rfl HC3.o.own HC3.o.va (by simp;omega);intro s hs;simp only[List.mem_cons,List.not_mem_nil,or_false]at hs;rcases hs with rfl|rfl|rfl|rfl
      ·exact hms _ (HC3.o.ms _ (by simp)).1
      ·exact hms _ (HC3.o.ms _ (by simp)).1
      ·exact hms _ (HC3.o.ms _ (by simp)).1
      ·exact hms _ hz
     ·refine(HR.o.m k s hk).fm (.inr rfl) hfo (fun g cs hg hc=>⟨fun e=>?_,?_⟩)
      ·rcases e with e|e
       ·exact gM HR.o.own hc (by decide) e
       ·have:=ag hc;omega
      ·exact hg.imp (fun⟨y,hy,e⟩=>.inr ⟨y,List.mem_of_mem_take hy,e⟩) (fun e=>e)
     ·exact((HR.o.fm.mono (fun g hg=>Or.inl (Or.inr hg))).trans (hfo.mono hA')).tidy (fun k hk e=>e.resolve_right (by omega))
structure jJ(w:World)(B0 b:Nat)(F:Nat->Value)(L:Nat->List SL)(PL RL:List (SL×List OX)):Prop where
 bk:Bk w B0 b F L
 e0:L 0=[]
 e1:L 1=[]
 e5:L 5=PL.map Prod.fst
 e6:L 6=RL.map Prod.fst
 m3:∀k s,(L 3)[k]?=some s->kw w (fun g=>∀p∈PL,¬ez (sv p.1) p.2 g) k s
 m4:∀k s,(L 4)[k]?=some s->ji w (fun g=>∀p∈PL,¬ez (sv p.1) p.2 g) k s
 pl:∀p∈PL,dw w B0 (sv p.1) p.2/\p.2.length<=1000/\∀x∈p.2,x.1.2.2.length<=1000000
 rl:∀p∈RL,dw w B0 (sv p.1) p.2
 eq:PL.map (fun p=>p.2.map Prod.fst)=RL.map (fun p=>p.2.map Prod.fst)
 dj:PL.Pairwise (fun p q=>∀g,ez (sv p.1) p.2 g->¬ez (sv q.1) q.2 g)
theorem jJ.fm{w w':World}{B0 b:Nat}{F:Nat->Value}{L:Nat->List SL}{PL RL:List (SL×List OX)}{K:Nat->Prop}(h:jJ w B0 b F L PL RL)(hb:Bk w' B0 b F L)(hf:Fm B0 K w w')(hk:∀g,g<w.heap.size->¬K g):jJ w' B0 b F L PL RL:=
 ⟨hb,h.e0,h.e1,h.e5,h.e6,fun k s hs=>(h.m3 k s hs).fm (.inl rfl) hf (fun g _ hg hc=>⟨hk g (ag hc),hg⟩),fun k s hs=>(h.m4 k s hs).fm (.inr rfl) hf (fun g _ hg hc=>⟨hk g (ag hc),hg⟩),fun p hp=>⟨(h.pl p hp).1.fm hf (fun g hg=>hk g ((h.pl p hp).1.lt g hg).2),(h.pl p hp).2⟩,fun p hp=>(h.rl p hp).fm hf (fun g hg=>hk g ((h.rl p hp).lt g hg).2),h.eq,h.dj⟩
theorem jJ.below{w w':World}{B0 b:Nat}{F:Nat->Value}{L:Nat->List SL}{PL RL:List (SL×List OX)}(h:jJ w B0 b F L PL RL)(hB:B0<=w.heap.size)(hb:Lt w w'):jJ w' B0 b F L PL RL:=h.fm (K:=fun _=>False) (h.bk.below hb) (Fm.of_below hb hB) (fun _ _ e=>e)
theorem jJ.at5{w:World}{B0 b:Nat}{F:Nat->Value}{L:Nat->List SL}{PL RL:List (SL×List OX)}(h:jJ w B0 b F L PL RL):∃a c,F 5=.slice a PL.length c/\∀i p,PL[i]?=some p->∃g,a=some ⟨g,0,none⟩/\w.cell? ⟨g,i,none⟩=some (sv p.1):=by
 obtain⟨a,c,e,hh⟩:=lR (h.bk.o 5);refine⟨a,c,by rw[e,h.e5,Ll],fun i p hp=>?_⟩;rcases hh with q|⟨g,q,hc⟩
 ·rw[h.e5]at q;simp at q;rw[q]at hp;simp at hp
 ·exact⟨g,q,hc i p.1 (by rw[h.e5,La,hp];rfl)⟩
theorem jJ.at6{w:World}{B0 b:Nat}{F:Nat->Value}{L:Nat->List SL}{PL RL:List (SL×List OX)}(h:jJ w B0 b F L PL RL):∃a c,F 6=.slice a PL.length c/\∀i p,PL[i]?=some p->∃g r,a=some ⟨g,0,none⟩/\w.cell? ⟨g,i,none⟩=some (sv r.1)/\r∈RL/\r.2.map Prod.fst=p.2.map Prod.fst:=by
 obtain⟨a,c,e,hh⟩:=lR (h.bk.o 6);have hl:PL.length=RL.length:=by have:=congrArg List.length h.eq;simpa using this
 refine⟨a,c,by rw[e,h.e6,Ll,hl],fun i p hp=>?_⟩;obtain⟨r,hr⟩:∃r,RL[i]?=some r:=⟨_,KM (by rw[<-hl];exact(KO.1 hp).1)⟩;rcases hh with q|⟨g,q,hc⟩
 ·rw[h.e6]at q;simp at q;rw[q]at hr;simp at hr
 ·refine⟨g,r,q,hc i r.1 (by rw[h.e6,La,hr];rfl),KN hr,?_⟩
  have:=congrArg (·[i]?) h.eq;simp[hp,hr]at this;exact this.symm
structure Sd(w x:World)(B0 b:Nat)(F F':Nat->Value)(L L':Nat->List SL)(PL:List (SL×List OX))(i q1:Nat):Prop where
 bk:Bk x B0 b F' L'
 f:∀j,j≠0->j≠1->F' j=F j/\L' j=L j
 n0:(L' 0).length=i*4
 n1:(L' 1).length=q1*4
 n1l:q1<=i*1000
 m0:∀k s,(L' 0)[k]?=some s->kw x (fun g=>∀j p,i<=j->PL[j]?=some p->¬ez (sv p.1) p.2 g) (k/4) s
 m1:∀k s,(L' 1)[k]?=some s->ji x (fun g=>∀j p,i<=j->PL[j]?=some p->¬ez (sv p.1) p.2 g) (k/4) s
 m3:∀k s,(L 3)[k]?=some s->kw x (fun g=>∀j p,i<=j->PL[j]?=some p->¬ez (sv p.1) p.2 g) k s
 m4:∀k s,(L 4)[k]?=some s->ji x (fun g=>∀j p,i<=j->PL[j]?=some p->¬ez (sv p.1) p.2 g) k s
 pl:∀j p,i<=j->PL[j]?=some p->dw x B0 (sv p.1) p.2
 lo:Below B0 w x
theorem Sd.next{w x x':World}{B0 b i q1:Nat}{F F' F2:Nat->Value}{L L':Nat->List SL}{PL:List (SL×List OX)}{p:SL×List OX}{N0 N1:List SL}(h:Sd w x B0 b F F' L L' PL i q1)(hp:PL[i]?=some p)(hdj:PL.Pairwise (fun p q=>∀g,ez (sv p.1) p.2 g->¬ez (sv q.1) q.2 g))(hpl:p.2.length<=1000)(hn0:N0.length=4)(hn1:N1.length=p.2.length*4)(hb:Bk x' B0 b F2 (bn (bn L' 1 (L' 1++N1)) 0 (L' 0++N0)))(hf:∀j,j≠0->j≠1->F2 j=F' j)
 (hm0:∀s∈N0,kw x' (fun g=>ez (sv p.1) p.2 g\/x.heap.size<=g) i s) (hm1:∀k s,N1[k]?=some s->ji x' (fun g=>ez (sv p.1) p.2 g\/x.heap.size<=g) (q1+k/4) s) (hfm:Fm B0 (ez (sv p.1) p.2) x x'):Sd w x' B0 b F F2 L (bn (bn L' 1 (L' 1++N1)) 0 (L' 0++N0)) PL (i+1) (q1+p.2.length):=by
 have hd:∀j r,i+1<=j->PL[j]?=some r->∀g,ez (sv p.1) p.2 g->¬ez (sv r.1) r.2 g:=fun j r hj hr=>by
  have:=List.pairwise_iff_getElem.1 hdj i j (KO.1 hp).1 (KO.1 hr).1 (by omega);rw[(KO.1 hp).2,(KO.1 hr).2]at this;exact this
 have hnew:∀g,(ez (sv p.1) p.2 g\/x.heap.size<=g)->∀j r,i+1<=j->PL[j]?=some r->¬ez (sv r.1) r.2 g:=fun g hg j r hj hr e=>by
  rcases hg with q|q
  ·exact hd j r hj hr g q e
  ·have:=((h.pl j r (by omega) hr).lt g e).2;omega
 have hold:∀g,(∀j p,i<=j->PL[j]?=some p->¬ez (sv p.1) p.2 g)->¬ez (sv p.1) p.2 g/\∀j p,i+1<=j->PL[j]?=some p->¬ez (sv p.1) p.2 g:=fun g hg=>⟨hg i p (KK _) hp,fun j r hj hr=>hg j r (by omega) hr⟩;have hn:=h.n0;have hq:=h.n1;refine⟨hb,fun j h0 h1=>?_,?_,?_,?_,fun k s hk=>?_,fun k s hk=>?_,fun k s hk=>?_,fun k s hk=>?_,fun j r hj hr=>?_,h.lo.trans hfm.below⟩
 ·unfold bn
  rw[K8 h0,K8 h1,hf j h0 h1];exact h.f j h0 h1
 ·simp[bn,hn,hn0];omega
 ·simp[bn,hq,hn1];omega
 ·have:=h.n1l;omega
 ·have hk:(L' 0++N0)[k]?=some s:=hk
  by_cases hkl:k<(L' 0).length
  ·rw[Lf hkl]at hk
   exact(h.m0 k s hk).fm (.inl rfl) hfm (fun g _ hg _=>hold g hg)
  ·rw[Lg (by omega)]at hk
   have hk4:=(KO.1 hk).1;rw[show k/4=i by omega];exact(hm0 s (KN hk)).mono hnew
 ·have hk:(L' 1++N1)[k]?=some s:=hk
  by_cases hkl:k<(L' 1).length
  ·rw[Lf hkl]at hk
   exact(h.m1 k s hk).fm (.inr rfl) hfm (fun g _ hg _=>hold g hg)
  ·rw[Lg (by omega)]at hk
   have:=(hm1 _ s hk).mono hnew;rw[show q1+(k-(L' 1).length)/4=k/4 by omega]at this;exact this
 ·exact(h.m3 k s hk).fm (.inl rfl) hfm (fun g _ hg _=>hold g hg)
 ·exact(h.m4 k s hk).fm (.inr rfl) hfm (fun g _ hg _=>hold g hg)
 ·exact(h.pl j r (by omega) hr).fm hfm (fun g hg e=>hd j r hj hr g e hg)
theorem Sd.at5{w x:World}{B0 b i q1:Nat}{F F':Nat->Value}{L L':Nat->List SL}{PL:List (SL×List OX)}(h:Sd w x B0 b F F' L L' PL i q1)(e5:L 5=PL.map Prod.fst){a:Option Addr}{c:Nat}(hF:F 5=.slice a PL.length c)(z7:F 7=.slice none 0 0):(∃f0 f1 f2 f3 f4 f6 f8,x.heap[b]?=some (.cells #[f0,f1,f2,f3,f4,.slice a PL.length c,f6,.slice none 0 0,f8] 31 (0,0)))/\∀p,PL[i]?=some p->∃g,a=some ⟨g,0,none⟩/\x.cell? ⟨g,i,none⟩=some (sv p.1):=by
 have f5:=h.f 5 (by decide) (by decide);have f7:=h.f 7 (by decide) (by decide);have hb:=h.bk.bl;rw[f5.1,hF,f7.1,z7]at hb;refine⟨⟨_,_,_,_,_,_,_,hb⟩,fun p hp=>?_⟩;obtain⟨a',c',e,hh⟩:=lR (h.bk.o 5);rw[f5.1,hF,f5.2,e5,Ll]at e;cases e;rcases hh with q|⟨g,q,hc⟩
 ·rw[f5.2,e5]at q;simp at q;rw[q]at hp;simp at hp
 ·exact⟨g,q,hc i p.1 (by rw[f5.2,e5,La,hp];rfl)⟩
theorem Bk.setFm{x:World}{B0 b:Nat}{F:Nat->Value}{L:Nat->List SL}{K:Nat->Prop}(h:Bk x B0 b F L)(j:Nat)(v:Value):Fm B0 K x (x.setCell ⟨b,j,none⟩ v):=by
 refine⟨rfl,rfl,rfl,by simp[World.setCell],fun k hk=>KX _ _ _ _ (show k≠b by have:=h.hb;omega),fun k cs t fr hc ht _=>KX _ _ _ _ (fun e=>?_)⟩;rw[show k=b from e,h.bl]at hc;cases hc;rcases ht with r|r|r<;>cases r
theorem Fp(w:World)(B0 b:Nat)(F:Nat->Value)(L:Nat->List SL)(PL RL:List (SL×List OX))(H:jJ w B0 b F L PL RL)(hB:B0<=w.heap.size)(hpl:PL.length<=100)(h3:(L 3).length<=2000000)(h4:(L 4).length<=2000000):
 Calls prog 7 #[.pointer (some ⟨b,0,none⟩)] w fun e w'=>e=.returned (.bool true)/\(∃l1 l2 l4 l5 u v L1 L2 L4 L5,qK w' b l1 l2 l4 l5 u v L1 L2 L4 L5)/\Below B0 w w':=by
 obtain⟨a5,c5,hF5, -⟩:=H.at5;obtain⟨a6,c6,hF6, -⟩:=H.at6;obtain⟨hz2,hz7,hz8⟩:=H.bk.z;have hbl:=H.bk.bl;rw[hF5,hF6,hz7,hz8]at hbl;have HBL:=aa hbl;have HH:=aa H;clear hbl H;go_enter func7,ntmps7;go_wp2_with fail;go_loopg [3,4,5] PL.length (fun mm v3 v4 v5 wr=>∃(i nn:Nat),v3=.bool true/\v4=.int .i64 i/\i<=PL.length/\PL.length-i<=mm/\wr=w.drewN nn)
 case atStart=>exact⟨0,0,rfl,rfl,KU _,KK _,rfl⟩
 case round=>
  obtain⟨i,nn,rfl,rfl,hil,hmm,rfl⟩:=hrel;have HI:=aa (HH.o.below hB (below_drewN (KL _ _) nn));have hbl:=fO (below_drewN (KL _ _) nn) HBL.o;have HWQ:=aa (show∀m,∃m',(w.drewN nn).drewN m=w.drewN m' from fun m=>⟨_,World.drewN_drewN _ _ _⟩);have hBW:B0<=(w.drewN nn).heap.size:=hB;have HLO:=aa (show Below B0 w (w.drewN nn)from below_drewN (KL _ _) nn);generalize w.drewN nn=W0 at*;have c:=ae hbl;have hlb:=ag hbl;clear hbl;by_cases hlt:i<PL.length
  ·obtain⟨p,hp⟩:∃p,PL[i]?=some p:=⟨_,KM hlt⟩
   obtain⟨a5',c5',e5,q5⟩:=HI.o.at5;obtain⟨a6',c6',e6,q6⟩:=HI.o.at6;rw[hF5]at e5;cases e5;rw[hF6]at e6;cases e6;obtain⟨g5,e5,d5⟩:=q5 i p hp;obtain⟨g6,r,e6,d6,hr,her⟩:=q6 i p hp;subst e5 e6;have HSA:=aa (fun m=>sH _ _ _ _ (W0.drewN m) (((HI.o.pl p (KN hp)).1.rows).below (below_drewN (KL _ _) m)) ((HI.o.rl r hr).rows.below (below_drewN (KL _ _) m)) (by rw[Ll];have:=(HI.o.pl p (KN hp)).2.1;omega) (fun z hz=>by obtain⟨x,hx,rfl⟩:=List.mem_map.1 hz;have:=(HI.o.pl p (KN hp)).2.2 x hx;omega));have hdt:decide (p.2.map Prod.fst=r.2.map Prod.fst)=true:=Le her.symm;simp only[hdt]at HSA;have hg5:=KQ W0 _ d5;have hg6:=KQ W0 _ d6;obtain⟨⟨s1,s2,s3⟩,xs5⟩:=p;obtain⟨⟨t1,t2,t3⟩,xs6⟩:=r;simp only[sv]at d5 d6 HSA;clear q5 q6 her hdt hr hp;go_wp2_with fail;go_quiet (first|(go_at_call 15;refine Calls.quiet_of (HSA.o _)));go_wp2_with fail;obtain⟨m',em⟩:=HWQ.o nq;go_roundg (PL.length-(i+1))
   case measure=>omega
   case rel=>exact⟨i+1,m',rfl,by go_num,by omega,KK _,em⟩
  ·go_wp2_with fail
   clear c;go_loopg [3,6,7] 0 (fun mm v3 v6 v7 wr=>v3=.bool true/\v6=.int .i64 0/\∃nn,wr=W0.drewN nn)
   case atStart=>exact⟨rfl,rfl,0,rfl⟩
   case round=>
    obtain⟨rfl,rfl,nn,rfl⟩:=hrel;have HI2:=aa (HI.o.below hBW (below_drewN (KL _ _) nn));have HLO2:=aa (show Below B0 w (W0.drewN nn)from HLO.o.trans (below_drewN (KL _ _) nn));have hBW2:B0<=(W0.drewN nn).heap.size:=hBW;clear HI HLO HWQ hBW;generalize W0.drewN nn=W1 at*;have hbl:W1.heap[b]?=some (.cells #[F 0,F 1,F 2,F 3,F 4,.slice a5 PL.length c5,.slice a6 PL.length c6,.slice none 0 0,.slice none 0 0] 31 (0,0)):=by
     have:=HI2.o.bk.bl;rw[hF5,hF6,hz7,hz8]at this;exact this
    have c:=ae hbl;have hlb:=ag hbl;clear hbl;go_wp2_with fail;go_loopg [8] PL.length (fun mm v8 wr=>∃(i q1:Nat) (F':Nat->Value) (L':Nat->List SL),v8=.int .i64 i/\i<=PL.length/\PL.length-i<=mm/\Sd w wr B0 b F F' L L' PL i q1)
    case atStart=>
     exact⟨0,0,F,L,rfl,KU _,KK _,HI2.o.bk,fun _ _ _=>⟨rfl,rfl⟩,by rw[HI2.o.e0];rfl,by rw[HI2.o.e1];rfl,KK _,fun k s hk=>by rw[HI2.o.e0]at hk;simp at hk,fun k s hk=>by rw[HI2.o.e1]at hk;simp at hk,fun k s hk=>(HI2.o.m3 k s hk).mono (fun g hg j p _ hp=>hg p (KN hp)),fun k s hk=>(HI2.o.m4 k s hk).mono (fun g hg j p _ hp=>hg p (KN hp)),fun j p _ hp=>(HI2.o.pl p (KN hp)).1,HLO2.o⟩
    case round=>
     obtain⟨i,q1,F',L',rfl,hil,hmm,hS⟩:=hrel;obtain⟨⟨f0,f1,f2,f3,f4,f6,f8,hbl⟩,hat⟩:=hS.at5 HI2.o.e5 hF5 hz7;have c:=ae hbl;have hlb:=ag hbl;have hfb:=ar hbl;have HS:=aa hS;have hsw:=hS.lo.size;have hq1:=hS.n1l;have hblo:=aa hbl;clear hS hbl;by_cases hlt:i<PL.length
     ·obtain⟨p,hp⟩:∃p,PL[i]?=some p:=⟨_,KM hlt⟩
      obtain⟨g5,e5,d5⟩:=hat p hp;subst e5;have hg5:=KQ wr _ d5;have HP:=aa hp;have HRW:=aa (IJ wr B0 b F' L' HS.o.bk (by omega) (sv p.1) p.2 (HS.o.pl i p (KK _) hp) (HI2.o.pl p (KN hp)).2.1 (HI2.o.pl p (KN hp)).2.2 i q1 HS.o.n0 (by omega) HS.o.n1 (by omega));clear hp hat;go_wp2_with fail;refine HRW.o.mono ?_;rintro _ w1 ⟨rfl,F2,N0,N1,r0,r1,r2,r3,r4,r5,r6⟩;have HS':=aa (HS.o.next HP.o HI2.o.dj (HI2.o.pl p (KN HP.o)).2.1 r0 r1 r2 r3 r4 r5 r6);clear r0 r1 r2 r3 r4 r5 r6 HRW c d5;go_wp2_with fail;go_roundg (PL.length-(i+1))
      case measure=>omega
      case rel=>exact⟨i+1,_,_,_,by go_num,by omega,KK _,HS'.o⟩
     ·have hie:i=PL.length:=by omega
      subst hie;clear hat;obtain⟨wo,rfl⟩:∃wo:World,wo=wr:=⟨_,rfl⟩;go_wp2_with fail;go_loopg [9] 0 (fun mm v9 wr=>v9=.int .i64 0/\∃nn,wr=wo.drewN nn)
      case atStart=>exact⟨rfl,0,rfl⟩
      case round=>
       obtain⟨rfl,nn,rfl⟩:=hrel;have hd:=below_drewN (KL wo.heap.size wo) nn;have HF:=aa (Fm.of_below (B0:=B0) (K:=fun _=>False) hd (by omega));have HBK:=aa (HS.o.bk.below hd);have hbl:(wo.drewN nn).heap[b]?=some (.cells #[f0,f1,f2,f3,f4,.slice a5 PL.length c5,f6,.slice none 0 0,f8] 31 (0,0)):=hblo.o;generalize wo.drewN nn=W2 at*;have c:=ae hbl;have hlb:=ag hbl;have hfb:=ar hbl;clear hbl hd;go_wp2_with fail;go_ret;have k5:=HBK.o.drop (j:=5) (by decide);have k6:=k5.drop (j:=6) (by decide);have k7:=k6.drop (j:=7) (by decide);have k8:=k7.drop (j:=8) (by decide);have hf:=(((HF.o.trans (HBK.o.setFm 5 (.slice none 0 0))).trans (k5.setFm 6 (.slice none 0 0))).trans (k6.setFm 7 (.slice none 0 0))).trans (k7.setFm 8 (.slice none 0 0));have e3:=(HS.o.f 3 (by decide) (by decide)).2;have e4:=(HS.o.f 4 (by decide) (by decide)).2;refine⟨rfl,⟨_,_,_,_,_,_,_,_,_,_,k8.looks (A:=fun _=>True) (fun i s hs=>(HS.o.m0 i s hs).fm (.inl rfl) hf (fun _ _ _ _=>⟨fun e=>e,trivial⟩)) (fun i s hs=>(HS.o.m1 i s hs).fm (.inr rfl) hf (fun _ _ _ _=>⟨fun e=>e,trivial⟩)) (fun i s hs=>?_) (fun i s hs=>?_) ?_ ?_ ?_ ?_⟩,HS.o.lo.trans hf.below⟩
       ·have hs:(L' 3)[i]?=some s:=hs
        rw[e3]at hs;exact(HS.o.m3 i s hs).fm (.inl rfl) hf (fun _ _ _ _=>⟨fun e=>e,trivial⟩)
       ·have hs:(L' 4)[i]?=some s:=hs
        rw[e4]at hs;exact(HS.o.m4 i s hs).fm (.inr rfl) hf (fun _ _ _ _=>⟨fun e=>e,trivial⟩)
       ·have:=HS.o.n0;simp[bn];omega
       ·have:=HS.o.n1;simp[bn];omega
       ·simp[bn,e3];omega
       ·simp[bn,e4];omega
theorem nJ.own{w:World}{h B:Nat}{l:List dd}(k:nJ w h l)(hB:B<=h)(hl:l.length<=1000000):∃xs,w.ownsRow B 34 2 (.slice (some ⟨h,0,none⟩) (l.length+1) (l.length+1)) (l.length+1) xs:=by
 obtain⟨cs,h1,h2, -⟩:=k;exact⟨cs.toList,by simp[h2],.inr ⟨h,_,cs,rfl,hB,h1,KK _,by unfold maxLen;omega,h2,by rw[<-h2,<-Array.length_toList];exact List.take_length⟩⟩
theorem iB.own{w:World}{g B:Nat}{ys:List bo}{hs:List Nat}(k:iB w g ys hs)(hB:B<=g)(hl:ys.length<=1000000):∃xs,w.ownsRow B 37 3 (.slice (some ⟨g,0,none⟩) (ys.length+1) (ys.length+1)) (ys.length+1) xs:=by
 obtain⟨cs,h1,h2, -⟩:=k.rows;exact⟨cs.toList,by simp[h2],.inr ⟨g,_,cs,rfl,hB,h1,KK _,by unfold maxLen;omega,h2,by rw[<-h2,<-Array.length_toList];exact List.take_length⟩⟩
theorem iB.at{w:World}{g:Nat}{ys:List bo}{hs:List Nat}(k:iB w g ys hs)(hl:hs.length=ys.length):eM w (.slice (some ⟨g,0,none⟩) ys.length (ys.length+1)) ys:=by
 obtain⟨cs,h1,h2,h3⟩:=k.rows;refine⟨_,_,rfl,by omega,.inr ⟨g,0,rfl,fun j r hj=>?_⟩⟩;have hjl:=(KO.1 hj).1;obtain⟨h,hh⟩:∃h,hs[j]?=some h:=⟨_,KM (by omega)⟩;obtain⟨q0,q1,q2⟩:=h3 j r h hj hh;obtain⟨ds,d1,d2,d3, -⟩:=k.cells j r h hj hh;have c:=ae h1;have d:=ae d1;exact⟨by rw[Nat.zero_add,c];exact q0,by rw[Nat.zero_add,c];exact q1,_,by rw[Nat.zero_add,c];exact q2,_,_,rfl,by omega,.inr ⟨h,0,rfl,fun i x hx=>⟨by rw[Nat.zero_add,d];exact(d3 i x hx).1,by rw[Nat.zero_add,d];exact(d3 i x hx).2⟩⟩⟩
structure Bc(w x:World)(B0 b g:Nat)(F F':Nat->Value)(L:Nat->List SL)(ys:List bo)(hs:List Nat)(i:Nat)(N:List SL):Prop where
 bk:Bk x B0 b F' (bn L 4 (L 4++N))
 f:∀j,j≠4->F' j=F j
 n:N.length=i
 m:∀k s,N[k]?=some s->ji x (fun u=>u∈hs.take i) ((L 4).length+k) s
 cells:∀j y h,i<=j->ys[j]?=some y->hs[j]?=some h->nJ x h y.2.2
 row:x.heap[g]?=w.heap[g]?
 fm:Fm B0 (fun u=>u∈hs) w x
theorem Bc.next{w x xT xf x4:World}{B0 b g i h g4:Nat}{F F':Nat->Value}{L:Nat->List SL}{ys:List bo}{hs:List Nat}{N:List SL}{y:bo}{xs:List Value}{v:Value}{o:Obj}{s:SL}(es:s=(some ⟨h,0,none⟩,y.2.2.length+1,y.2.2.length+1))(k:Bc w x B0 b g F F' L ys hs i N)(K:iB w g ys hs)(hB:B0<=g)(hy:ys[i]?=some y)(hh:hs[i]?=some h)(hl:y.2.2.length<=1000000)(hb:Lt x xT)
 (hc:xT.ownsRow B0 34 2 (.slice (some ⟨h,0,none⟩) (y.2.2.length+1) (y.2.2.length+1)) (y.2.2.length+1) xs) (hf:xf.ownsRow B0 34 2 (.slice (some ⟨h,0,none⟩) (y.2.2.length+1) (y.2.2.length+1)) (y.2.2.length+1) (jH (eC ((L 4).length+i)) (y.2.2.length+1))) (hg:xT.grownBy xf (Value.slice (some ⟨h,0,none⟩) (y.2.2.length+1) (y.2.2.length+1)).ownBlock)
 (ho:x4.ownsRow B0 35 1 v (L 4++N++[s]).length ((L 4++N++[s]).map sv)) (hg4:(xf.alloc o).grownBy x4 (F' 4).ownBlock) (hv:v.ownBlock=some g4) (hw:(F' 4).ownBlock=some g4\/g4=(xf.alloc o).heap.size):
 Bc w (x4.setCell ⟨b,4,none⟩ v) B0 b g F (bn F' 4 v) L ys hs (i+1) (N++[s]):=by
 have hil:=(KO.1 hy).1;have hhs:h∈hs:=KN hh;have htk:hs.take (i+1)=hs.take i++[h]:=by rw[Ld,hh];rfl
 have hsp:hs=hs.take i++(h::hs.drop (i+1)):=by
  have e:=(List.take_append_drop i hs).symm;rw[Lq (KO.1 hh).1,(KO.1 hh).2]at e;exact e
 have hd:=K.ord;rw[hsp,List.pairwise_append]at hd;have hxw:=k.fm.size;have hgw:g<w.heap.size:=by obtain⟨cs,h1,_⟩:=K.rows;exact ag h1
 have hal:Lt xf (xf.alloc o):=bA (KL _ _) _;have b1:Bk xT B0 b F' (bn L 4 (L 4++N)):=k.bk.below hb;have b2:Bk (xf.alloc o) B0 b F' (bn L 4 (L 4++N)):=(b1.grown hg hc (.inr rfl)).below hal;have s1:=hb.size;have s2:=hg.size;have f1:Fm B0 (fun u=>u=h) x (x4.setCell ⟨b,4,none⟩ v):=((Fm.of_below hb (by omega)).trans (Fm.grown hg hc (KK _) (by omega) (fun u e=>(KY e).symm))).trans ((Fm.of_below hal (by omega)).trans (b2.grow_fm (by simp;omega) hg4));have f2:Fm B0 (fun _=>False) xf (x4.setCell ⟨b,4,none⟩ v):=(Fm.of_below hal (by omega)).trans (b2.grow_fm (by simp;omega) hg4);have eL:bn (bn L 4 (L 4++N)) 4 (bn L 4 (L 4++N) 4++[s])=bn L 4 (L 4++(N++[s])):=by
  funext j;unfold bn;by_cases e:j=4<;>simp[e]
 have hb4:=b2.grow (by simp) hg4 (new:=[s]) ho hv (hw.imp (fun e=>e) (fun e=>Nat.le_of_eq e.symm));rw[eL]at hb4;refine⟨hb4,fun j hj=>by unfold bn;rw[K8 hj];exact k.f j hj,by simp[k.n],fun a s' ha=>?_,fun j z u hj hz hu=>?_,?_,k.fm.trans (f1.mono (fun u e=>by rw[e];exact hhs))⟩
 ·by_cases hal':a<N.length
  ·rw[Lf hal']at ha
   refine(k.m a s' ha).fm (.inr rfl) f1 (fun u _ hu _=>⟨fun e=>?_,by rw[htk];exact List.mem_append_left _ hu⟩);have:=hd.2.2 u hu h (by simp);omega
  ·rw[Lg (by omega)]at ha
   have ha0:a=N.length:=by have:=(KO.1 ha).1;simp at this;omega
   subst ha0;simp at ha;subst ha;have:ji xf (fun u=>u∈hs.take (i+1)) ((L 4).length+i) s:=by subst es;exact Mk.of_own rfl hf (fun u e=>by rw[htk];have:h=u:=KY e;simp[this]) (by simp;omega)
   rw[k.n];exact this.fm (.inr rfl) f2 (fun u _ hu _=>⟨fun e=>e,hu⟩)
 ·have hlc:=k.cells j z u (by omega) hz hu
  refine hlc.block ?_;obtain⟨cs,h1,_⟩:=hlc;refine f1.typ u cs 34 _ h1 (.inr (.inl rfl)) (fun e=>?_);have:u∈hs.drop (i+1):=by
   refine KN (i:=j-(i+1)) ?_;rw[List.getElem?_drop,show i+1+(j-(i+1))=j by omega];exact hu
  have:=(List.pairwise_cons.1 hd.2.1).1 u this;omega
 ·obtain⟨cs,h1,_⟩:=K.rows
  have e:=k.row.trans h1;exact(f1.typ g cs 37 _ e (.inl rfl) (fun q=>by have:=(K.gt h hhs).1;omega)).trans k.row
theorem Jl(w:World)(B0 b g:Nat)(F:Nat->Value)(L:Nat->List SL)(H:Bk w B0 b F L)(hB:B0<=g)(ys:List bo)(hs:List Nat)(K:iB w g ys hs)(hsl:hs.length=ys.length)(hmk:w.cell? ⟨g,ys.length*3+1,none⟩=some (.string sQ))(aY:Option Addr)(cY:Nat)(hY:∀W,Fm B0 (fun k=>g<=k) w W->eM W (.slice aY ys.length cY) ys)(hyl:ys.length<=1000000)(hcl:∀y∈ys,y.2.2.length<=1000000)(h4:(L 4).length<=10000000)(h3:(L 3).length<=1000):
 Calls prog 16 #[.pointer (some ⟨b,0,none⟩),.slice (some ⟨g,0,none⟩) ys.length (ys.length+1),.slice aY ys.length cY] w fun e w'=>e=.returned (.bool true)/\∃F' N,N.length=ys.length/\Bk w' B0 b F' (bn (bn L 4 (L 4++N)) 3 (L 3++[(some ⟨g,0,none⟩,ys.length+1,ys.length+1)]))/\(∀k s,N[k]?=some s->ji w' (fun u=>u∈hs) ((L 4).length+k) s)/\kw w' (fun u=>u=g) (L 3).length (some ⟨g,0,none⟩,ys.length+1,ys.length+1)/\Fm B0 (fun u=>u=g\/u∈hs) w w':=by
 obtain⟨iL,hiL,zL0,zL1,zL2⟩:=info_parts info23;obtain⟨iM,hiM,zM0,zM1,zM2⟩:=info_parts info35;have hq34:=t8;have hg34:=eg34;have hgw:g<w.heap.size:=by obtain⟨cs,h1,_⟩:=K.rows;exact ag h1
 have HK:=aa K;have HY:=aa hY;have HCL:=aa hcl;have HBK:=aa H;have HSL:=aa hsl;have HSA:=aa (sH _ _ ys ys w (K.at hsl) (hY w (Fm.of_below (KL _ _) (by omega))) (by omega) (fun r hr=>by have:=hcl r hr;omega));clear K hY hcl H hsl;go_enter func16,ntmps16;go_wp2_with fail;refine HSA.o.mono ?_;rintro _ _ ⟨rfl,nn,rfl⟩;simp only[decide_true];go_wp2_with fail;clear hmk;go_loopg [9,10,11,12,13] ys.length (fun mm v9 v10 v11 v12 v13 wr=>∃(i:Nat) (F':Nat->Value) (N:List SL),v9=.int .i64 i/\i<=ys.length/\ys.length-i<=mm/\Bc w wr B0 b g F F' L ys hs i N)
 case atStart=>
  refine⟨0,F,[],rfl,KU _,KK _,?_,fun _ _=>rfl,rfl,fun k s hk=>by simp at hk,fun j y h _ hy hh=>(HK.o.cells j y h hy hh).block rfl,rfl,Fm.of_below (below_drewN (KL _ _) _) (by omega)⟩;rw[show bn L 4 (L 4++[])=L from by funext j;unfold bn;by_cases e:j=4<;>simp[e]];exact HBK.o.below (below_drewN (KL _ _) _)
 case round=>
  obtain⟨i,F',N,rfl,hil,hmm,hR⟩:=hrel;have HR:=aa hR;clear hR;have MM:=HR.o.fm.size;obtain⟨wo,rfl⟩:∃wo:World,wo=wr:=⟨_,rfl⟩;by_cases hlt:i<ys.length
  ·obtain⟨y,hy⟩:∃y,ys[i]?=some y:=⟨_,KM hlt⟩
   obtain⟨h,hh⟩:∃h,hs[i]?=some h:=⟨_,KM (by rw[HSL.o];exact hlt)⟩;have hcy:=HCL.o y (KN hy);have hgh:=(HK.o.gt h (KN hh)).1;obtain⟨gY,oY,aC,cC,e,y0,y1,y2,hC⟩:=(HY.o _ (HR.o.fm.mono (fun u hu=>Nat.le_of_lt (HK.o.gt u hu).1))).at hy;subst e;obtain⟨cs,k1,k2,k3⟩:=HK.o.rows;have d2:=(ae (HR.o.row.trans k1) (i*3+2)).trans (k3 i y h hy hh).2.2;have hLC:=HR.o.cells i y h (KK _) hy hh;obtain⟨xs,LJ⟩:=hLC.own (B:=B0) (by omega) hcy;obtain⟨ds,p1,p2,p3,p4,p5⟩:=hLC;have e0:=(ae p1 _).trans p4;have e1:=(ae p1 _).trans p5;obtain⟨k5,hk5⟩:∃k5,k5=(L 4).length+i:=⟨_,rfl⟩;obtain⟨a4,c4,hF4, -⟩:=lR (HR.o.bk.o 4);rw[show(bn L 4 (L 4++N) 4).length=k5 from by rw[hk5];simp[bn,HR.o.n]]at hF4;have hbl:wo.heap[b]?=some (.cells #[F' 0,F' 1,F' 2,F' 3,.slice a4 k5 c4,F' 5,F' 6,F' 7,F' 8] 31 (0,0)):=by have:=HR.o.bk.bl;rw[hF4]at this;exact this
   have c:=ae hbl;have hlb:=ag hbl;have Mq:=aa LJ;have HK5:=aa hk5;have hk5l:k5<=11000000:=by omega
   clear k1 k3 hC y0 y1 p1 p3 p4 p5 hbl LJ hk5 hiL;go_wp2_with fail;refine(ox k5 wo (by omega)).mono ?_;rintro _ w1 ⟨rfl,b1⟩;have HB1:=aa b1;have Nq:=b1.size;have hhw:h<wo.heap.size:=ep Mq.o h rfl;clear c b1 y2 d2 e0 e1;go_wp2_with fail;have hT:=KS w1 (.cells #[.string (dM k5),.string ⟨#[]⟩] 34);have HB2:=aa (bA HB1.o (.cells #[.string (dM k5),.string ⟨#[]⟩] 34));have HL2:=aa (bZ Mq.o HB2.o);generalize hwT:w1.alloc (.cells #[.string (dM k5),.string ⟨#[]⟩] 34)=wT at*;have hTh:w1.heap.size≠h:=by omega
   generalize w1.heap.size=T at*;have HT:=aa hT;clear hT hwT;go_loopg [13] (y.2.2.length+1) (fun mm v5 wr=>∃i:Nat,v5=.int .i64 i/\i<=y.2.2.length+1/\y.2.2.length+1-i<=mm/\iF 34 (eC k5) 2 B0 (.slice (some ⟨h,0,none⟩) (y.2.2.length+1) (y.2.2.length+1)) (y.2.2.length+1) i wT wr)
   case atStart=>exact⟨0,rfl,KU _,KK _,iF.start HL2.o⟩
   case round=>
    obtain⟨j,rfl,hjl,hmm2,hf⟩:=hrel;have hTr:=(hf.grown.block T (ag HT.o) (fun e=>hTh (KY e))).trans HT.o;have cT:=ae hTr;have hlT:=ag hTr;have HF:=aa hf;clear hf hTr;by_cases Ml:j<y.2.2.length+1
    ·obtain⟨xs',ho, -, -⟩:=HF.o
     have hxl:=ho.1;obtain⟨u0,c0⟩:∃u,wr.cell? ⟨h,j*2,none⟩=some u:=⟨_,(ho.cellAt (j*2) (by omega)).trans (KM (by omega))⟩;obtain⟨u1,c1⟩:∃u,wr.cell? ⟨h,j*2+1,none⟩=some u:=⟨_,(ho.cellAt (j*2+1) (by omega)).trans (KM (by omega))⟩;have fX:=ho.frozenAt;clear ho;go_wp2_with fail;go_roundg (y.2.2.length+1-(j+1))
     case measure=>omega
     case rel=>exact⟨j+1,by go_num,by omega,KK _,HF.o.step2 Ml⟩
    ·have hje:j=y.2.2.length+1:=by omega
     subst hje;have HBR:=aa ((HR.o.bk.below HB2.o).grown HF.o.grown HL2.o (.inr rfl));have HD:=aa (HF.o.done rfl (by decide));have HG:=aa HF.o.grown;have hbl:wr.heap[b]?=some (.cells #[F' 0,F' 1,F' 2,F' 3,.slice a4 k5 c4,F' 5,F' 6,F' 7,F' 8] 31 (0,0)):=by have:=HBR.o.bl;rw[hF4]at this;exact this
     have cb:=ae hbl;have hlb:=ag hbl;have HBL:=aa hbl;have HO4:=aa (show wr.ownsRow B0 35 1 (.slice a4 k5 c4) k5 ((L 4++N).map sv)from by have:=HBR.o.o 4;rw[hF4,show(bn L 4 (L 4++N) 4).length=k5 from by rw[HK5.o];simp[bn,HR.o.n]]at this;exact this);have hsw:B0<=wr.heap.size:=by have:=HG.o.size;have:=HB2.o.size;omega
     clear hbl HF;go_wp2_with (at_builtin;refine wpList_append_lies _ rfl _ _ 28 rfl B0 35 iM _ 1 24 underlying28 hiM zM0 zM1 zM2 rfl (by decide) _ _ _ rfl (HO4.o.alloc _) ⟨wr.heap.size,0,none⟩ 1 1 [.slice (some ⟨h,0,none⟩) (y.2.2.length+1) (y.2.2.length+1)] rfl rfl (de _ _ _ _ (by simp)) (by intro u hu;simp at hu;rcases hu with rfl;rfl) (by decide) (by unfold maxLen;omega) (by omega) (by have:=hsw;simp;omega) _ rfl ?_;intro g4 k4 x4 hn4 hg4 hw4 hl4;have hbl:x4.heap[b]?=some (.cells #[F' 0,F' 1,F' 2,F' 3,.slice a4 k5 c4,F' 5,F' 6,F' 7,F' 8] 31 (0,0)):=(hg4.block b (by have:=hlb;simp;omega) (fun e=>HBR.o.ne 4 (by rw[hF4];exact e.symm))).trans (fO (bA (KL _ _) _) HBL.o);have cb:=ae hbl;have fb:=ar hbl;have hlb:=ag hbl;clear hbl);go_roundg (ys.length-(i+1))
     case measure=>omega
     case rel=>
      refine⟨i+1,_,_,by go_num,by omega,KK _,HR.o.next rfl HK.o hB hy hh hcy HB2.o HL2.o (by rw[<-HK5.o];exact HD.o) HG.o (by rw[show(L 4++N++[((some ⟨h,0,none⟩,y.2.2.length+1,y.2.2.length+1):SL)]).length=k5+1 from by rw[HK5.o];simp[HR.o.n];omega,Lr];exact hn4) (by rw[hF4];exact hg4) rfl (by rw[hF4];exact hw4)⟩
  ·have hie:i=ys.length:=by omega
   subst hie;obtain⟨k5,hk5⟩:∃k5,k5=(L 3).length:=⟨_,rfl⟩;obtain⟨a4,c4,hF4, -⟩:=lR (HR.o.bk.o 3);rw[show(bn L 4 (L 4++N) 3).length=k5 from by rw[hk5];rfl]at hF4;have hbl:wo.heap[b]?=some (.cells #[F' 0,F' 1,F' 2,.slice a4 k5 c4,F' 4,F' 5,F' 6,F' 7,F' 8] 31 (0,0)):=by have:=HR.o.bk.bl;rw[hF4]at this;exact this
   have c:=ae hbl;have hlb:=ag hbl;obtain⟨xs,LJ⟩:=HK.o.own hB hyl;have Mq:=aa (kQ (x:=wo) LJ (fun k e=>by have e:g=k:=KY e;subst e;exact HR.o.row));have HK5:=aa hk5;have hk5l:k5<=1000:=by omega
   have hgo:g<wo.heap.size:=by omega
   clear hbl LJ hk5 hiM;go_wp2_with fail;refine(ox k5 wo (by omega)).mono ?_;rintro _ w1 ⟨rfl,b1⟩;have HB1:=aa b1;have Nq:=b1.size;clear c b1;go_wp2_with fail;have hT:=KS w1 (.cells #[.string ⟨#[]⟩,.string (dM k5),.slice none 0 0] 37);have HB2:=aa (bA HB1.o (.cells #[.string ⟨#[]⟩,.string (dM k5),.slice none 0 0] 37));have HL2:=aa (bZ Mq.o HB2.o);generalize hwT:w1.alloc (.cells #[.string ⟨#[]⟩,.string (dM k5),.slice none 0 0] 37)=wT at*;have hTh:w1.heap.size≠g:=by omega
   generalize w1.heap.size=T at*;have HT:=aa hT;clear hT hwT;go_loopg [15] (ys.length+1) (fun mm v5 wr=>∃i:Nat,v5=.int .i64 i/\i<=ys.length+1/\ys.length+1-i<=mm/\iF 37 (eR k5) 3 B0 (.slice (some ⟨g,0,none⟩) (ys.length+1) (ys.length+1)) (ys.length+1) i wT wr)
   case atStart=>exact⟨0,rfl,KU _,KK _,iF.start HL2.o⟩
   case round=>
    obtain⟨j,rfl,hjl,hmm2,hf⟩:=hrel;have hTr:=(hf.grown.block T (ag HT.o) (fun e=>hTh (KY e))).trans HT.o;have cT:=ae hTr;have hlT:=ag hTr;have HF:=aa hf;clear hf hTr;by_cases Ml:j<ys.length+1
    ·obtain⟨xs',ho, -, -⟩:=HF.o
     have hxl:=ho.1;obtain⟨u0,c0⟩:∃u,wr.cell? ⟨g,j*3,none⟩=some u:=⟨_,(ho.cellAt (j*3) (by omega)).trans (KM (by omega))⟩;obtain⟨u1,c1⟩:∃u,wr.cell? ⟨g,j*3+1,none⟩=some u:=⟨_,(ho.cellAt (j*3+1) (by omega)).trans (KM (by omega))⟩;obtain⟨u2,c2⟩:∃u,wr.cell? ⟨g,j*3+2,none⟩=some u:=⟨_,(ho.cellAt (j*3+2) (by omega)).trans (KM (by omega))⟩;have fX:=ho.frozenAt;clear ho;go_wp2_with fail;go_roundg (ys.length+1-(j+1))
     case measure=>omega
     case rel=>exact⟨j+1,by go_num,by omega,KK _,HF.o.step3 Ml⟩
    ·have hje:j=ys.length+1:=by omega
     subst hje;have HBR:=aa ((HR.o.bk.below HB2.o).grown HF.o.grown HL2.o (.inl rfl));have HD:=aa (HF.o.done rfl (by decide));have HG:=aa HF.o.grown;have hbl:wr.heap[b]?=some (.cells #[F' 0,F' 1,F' 2,.slice a4 k5 c4,F' 4,F' 5,F' 6,F' 7,F' 8] 31 (0,0)):=by have:=HBR.o.bl;rw[hF4]at this;exact this
     have cb:=ae hbl;have hlb:=ag hbl;have HBL:=aa hbl;have HO4:=aa (show wr.ownsRow B0 23 1 (.slice a4 k5 c4) k5 ((L 3).map sv)from by have:=HBR.o.o 3;rw[hF4,show(bn L 4 (L 4++N) 3).length=k5 from by rw[HK5.o];rfl]at this;exact this);have hsw:B0<=wr.heap.size:=by have:=HG.o.size;have:=HB2.o.size;omega
     clear hbl HF;go_wp2_with (at_builtin;refine wpList_append_lies _ rfl _ _ 27 rfl B0 23 iL _ 1 24 underlying27 hiL zL0 zL1 zL2 rfl (by decide) _ _ _ rfl (HO4.o.alloc _) ⟨wr.heap.size,0,none⟩ 1 1 [.slice (some ⟨g,0,none⟩) (ys.length+1) (ys.length+1)] rfl rfl (de _ _ _ _ (by simp)) (by intro u hu;simp at hu;rcases hu with rfl;rfl) (by decide) (by unfold maxLen;omega) (by omega) (by have:=hsw;simp;omega) _ rfl ?_;intro g4 k4 x4 hn4 hg4 hw4 hl4;have hbl:x4.heap[b]?=some (.cells #[F' 0,F' 1,F' 2,.slice a4 k5 c4,F' 4,F' 5,F' 6,F' 7,F' 8] 31 (0,0)):=(hg4.block b (by have:=hlb;simp;omega) (fun e=>HBR.o.ne 3 (by rw[hF4];exact e.symm))).trans (fO (bA (KL _ _) _) HBL.o);have cb:=ae hbl;have fb:=ar hbl;have hlb:=ag hbl;clear hbl);have hal:Lt wr (wr.alloc (.cells #[.slice (some ⟨g,0,none⟩) (ys.length+1) (ys.length+1)] 23)):=bA (KL _ _) _;have NY:(wr.alloc (.cells #[.slice (some ⟨g,0,none⟩) (ys.length+1) (ys.length+1)] 23)).grownBy x4 (F' 3).ownBlock:=by rw[hF4];exact hg4
     have f2:∀(K:Nat->Prop),Fm B0 K wr (x4.setCell ⟨b,3,none⟩ (.slice (some ⟨g4,0,none⟩) (k5+1) k4)):=fun K=>(Fm.of_below hal hsw).trans ((HBR.o.below hal).grow_fm (by simp;omega) NY);have f1:Fm B0 (fun u=>u=g) wo (x4.setCell ⟨b,3,none⟩ (.slice (some ⟨g4,0,none⟩) (k5+1) k4)):=((Fm.of_below HB2.o (by omega)).trans (Fm.grown HG.o HL2.o (KK _) (by have:=HB2.o.size;omega) (fun u e=>(KY e).symm))).trans (f2 _);go_ret;refine⟨rfl,_,N,HR.o.n,(HBR.o.below hal).grow (by simp) NY (new:=[(some ⟨g,0,none⟩,ys.length+1,ys.length+1)]) ?_ rfl ?_,fun k s hk=>?_,?_,?_⟩
     ·rw[show(bn L 4 (L 4++N) 3++[((some ⟨g,0,none⟩,ys.length+1,ys.length+1):SL)]).length=k5+1 from by rw[HK5.o,Lb];rfl,Lr];exact hn4
     ·rw[hF4];exact hw4.imp (fun e=>e) (fun e=>by rw[e];exact KK _)
     ·exact(HR.o.m k s hk).fm (.inr rfl) f1 (fun u _ hu _=>⟨fun e=>by have:=(HK.o.gt u (List.mem_of_mem_take hu)).1;omega,List.mem_of_mem_take hu⟩)
     ·rw[<-HK5.o]
      exact(show kw wr (fun u=>u=g) k5 (some ⟨g,0,none⟩,ys.length+1,ys.length+1)from Mk.of_own rfl HD.o (fun u e=>(KY e).symm) (by simp;omega)).fm (.inl rfl) (f2 (fun _=>False)) (fun u _ hu _=>⟨fun e=>e,hu⟩)
     ·exact(HR.o.fm.mono (fun u hu=>Or.inr hu)).trans (f1.mono (fun u hu=>Or.inl hu))
end Go.Proofs.YtgbloieahmkcjaaGreat
