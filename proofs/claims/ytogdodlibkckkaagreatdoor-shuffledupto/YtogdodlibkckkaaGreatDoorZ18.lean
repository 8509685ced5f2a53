import Derived.Test.YtogdodlibkckkaaGreatDoorZ13
import Derived.Test.YtogdodlibkckkaaGreatDoorZ12
import Derived.Deep.AppendLies
import Derived.Laws.OwnMore
import Derived.Deep.RegionLaw
import Derived.Deep.DrawnRows
namespace Go.Proofs.YtogdodlibkckkaaGreatDoor
set_option maxHeartbeats 20000000
set_option maxRecDepth 100000
open Go.RowKit Tryz
theorem KW{w w':World}{k:Nat}{o:Obj}(hb:yG w w')(a:w.heap[k]?=some o):w'.heap[k]?=some o:=(hb.block k (Ab a)).trans a
def ACR(w:World)(B:Nat->Prop)(v:Value)(l:List IN):Prop:=∃a cap,v=.slice a l.length cap/\l.length<=cap/\(l=[]\/∃g b,B g/\a=some ⟨g,b,none⟩/\∀j c,l[j]?=some c->w.cell? ⟨g,b+j*2,none⟩=some (.string c.1)/\w.cell? ⟨g,b+j*2+1,none⟩=some (.string c.2))
theorem ACR.at{w:World}{B:Nat->Prop}{v:Value}{l:List IN}(b:ACR w B v l):Jr w v l:=by
 obtain⟨a,cap,c,d,f⟩:=b;refine⟨a,cap,c,d,f.imp (fun e=>e) ?_⟩;rintro⟨g,j,k,h,i⟩;exact⟨g,j,h,i⟩
abbrev AFJ:=AY×Value
def ACG(x:AFJ):List Value:=[.string x.1.1,.string x.1.2.1,x.2]
def flC(c:IN):List Value:=[.string c.1,.string c.2]
theorem ADH:∀(xs:List IN) (a:Nat) (c:IN) (j:Nat),xs[a]?=some c->j<2->(xs.flatMap flC)[a*2+j]?=(flC c)[j]?
 |[],a,t,j,b,_=>by simp at b
 |x::e,0,t,j,b,d=>by
  simp at b;subst b;rw[List.flatMap_cons,xN (by show _<2;omega)];simp
 |x::e,a+1,t,j,b,d=>by
  rw[List.flatMap_cons,xO (by show 2<=_;omega)];rw[show(a+1)*2+j-(flC x).length=a*2+j by show(a+1)*2+j-2=_;omega];exact ADH e a t j (by simpa using b) d
theorem ACR.of_own{w:World}{base:Nat}{B:Nat->Prop}{v:Value}{l:List IN}(b:w.ownsRow base 41 2 v l.length (l.flatMap flC))(e:∀g,v.ownBlock=some g->B g):ACR w B v l:=by
 rcases b.2 with⟨a,c⟩|⟨g,cap,k,a,m,n,h⟩
 ·exact⟨none,0,by rw[a,c],by omega,Or.inl (xE c)⟩
 ·subst a
  refine⟨some ⟨g,0,none⟩,cap,rfl,h.1,Or.inr ⟨g,0,e g rfl,rfl,fun j x d=>?_⟩⟩;have p:j<l.length:=(wU.1 d).1;have q:∀i,i<2->w.cell? ⟨g,0+j*2+i,none⟩=(flC x)[i]?:=fun i f=>by
   rw[Nat.zero_add,b.cellAt _ (by omega)];exact ADH l j x i d f
  exact⟨q 0 (by omega),q 1 (by omega)⟩
structure ABi(w:World)(B0:Nat)(vO:Value)(xs:List AFJ):Prop where
 own:w.ownsRow B0 38 3 vO xs.length (xs.flatMap ACG)
 sub:∀x∈xs,w.ownsRow B0 41 2 x.2 x.1.2.2.length (x.1.2.2.flatMap flC)
 dis:xs.Pairwise (fun x y=>∀g,x.2.ownBlock=some g->y.2.ownBlock≠some g)
theorem AEZ{w:World}{c B m n s t:Nat}{e f:TypeId}{u v:Value}{xs ys:List Value}(d:w.ownsRow c e s u m xs)(h:w.ownsRow B f t v n ys)(j:e≠f)(g:Nat)(a:v.ownBlock=some g):u.ownBlock≠some g:=by
 rcases h.2 with⟨rfl,_⟩|⟨p,c1,k,rfl,_,i,_⟩
 ·simp[Value.ownBlock]at a
 ·simp[Value.ownBlock]at a;subst a
  intro e;rcases d.2 with⟨rfl,_⟩|⟨q,c2,l,rfl,_,b,_⟩
  ·simp[Value.ownBlock]at e
  ·simp[Value.ownBlock]at e;subst e;rw[i]at b;cases b;exact j rfl
theorem ABi.push{w w':World}{B0 C f e:Nat}{j:Value}{xs:List AFJ}{x:AFJ}(c:ABi w B0 j xs)(i:w.ownsRow C 41 2 x.2 x.1.2.2.length (x.1.2.2.flatMap flC))(n:B0<=C)(r:∀y∈xs,∀g,y.2.ownBlock=some g->g<C)
 (s:w'.ownsRow B0 38 3 (.slice (some ⟨f,0,none⟩) (xs.length+1) e) (xs.length+1) (xs.flatMap ACG++ACG x)) (p:∀k,B0<=k->k<w.heap.size->j.ownBlock≠some k->w'.heap[k]?=w.heap[k]?):
 ABi w' B0 (.slice (some ⟨f,0,none⟩) (xs.length+1) e) (xs++[x]):=by
 have t:w.ownsRow B0 41 2 x.2 x.1.2.2.length (x.1.2.2.flatMap flC):=FE i n;have h:∀{z:AFJ},w.ownsRow B0 41 2 z.2 z.1.2.2.length (z.1.2.2.flatMap flC)->w'.ownsRow B0 41 2 z.2 z.1.2.2.length (z.1.2.2.flatMap flC):=fun a=>
  So a (fun k d=>p k (Mr a k d) (Ln a k d) (AEZ c.own a (by decide) k d))
 refine⟨by rw[xJ,List.flatMap_append];simpa using s,fun z b=>?_,?_⟩
 ·rcases yD.1 b with q|q
  ·exact h (c.sub z q)
  ·simp at q;subst q;exact h t
 ·rw[List.pairwise_append]
  refine⟨c.dis,List.pairwise_singleton _ _,fun y u z b g l m=>?_⟩;simp at b;subst b;have:=r y u g l;have:=Mr i g m;omega
theorem ABi.nil(w:World)(B:Nat):ABi w B (.slice none 0 0) []:=⟨xF _ _ _ _,fun x a=>by simp at a,List.Pairwise.nil⟩
theorem Xu{w:World}{base n size g cap j:Nat}{e:TypeId}{xs:List Value}(a:w.ownsRow base e size (.slice (some ⟨g,0,none⟩) n cap) n xs)(u:Value):(w.setCell ⟨g,j,none⟩ u).ownsRow base e size (.slice (some ⟨g,0,none⟩) n cap) n (xs.set j u):=by
 rcases a.2 with⟨y,_⟩|⟨r,q,c,b,m,p,h,i,k,l⟩
 ·cases y
 ·have d:=(Addr.mk.inj (xD (Value.slice.inj b).1)).1
  have f:=(Value.slice.inj b).2.2;subst d f;exact⟨by rw[List.length_set];exact a.1,Or.inr ⟨g,cap,c.setIfInBounds j u,rfl,m,AI p j u,h,i,by rw[Array.size_setIfInBounds];exact k,by rw[Array.toList_setIfInBounds,List.take_set,l]⟩⟩
def LZ(a id:yF):Bool:=decide (a=Iu)==decide (id=bE)
theorem Ht(w:World)(a b c:Obj):(((w.alloc a).alloc b).alloc c).heap[w.heap.size]?=some a/\(((w.alloc a).alloc b).alloc c).heap[w.heap.size+1]?=some b/\(((w.alloc a).alloc b).alloc c).heap[w.heap.size+1+1]?=some c:=by
 refine⟨?_,?_,?_⟩
 ·rw[AJ _ _ _ (by simp;omega),AJ _ _ _ (by simp)];exact wX w a
 ·rw[AJ _ _ _ (by simp)];simpa using wX (w.alloc a) b
 ·simpa using wX ((w.alloc a).alloc b) c

theorem Ba.elem{w:World}{B:Nat->Prop}{k i:Nat}{v:FV}{sh:Nat}{n:Int}{s:yF}{l:List RV}{r:RV}(c:Ba w B k v (.mk sh n s l))(a:l[i]?=some r):∃q g f,v.la=some ⟨g,0,none⟩/\B g/\w.cell? ⟨g,i*4,none⟩=some (.int .i64 (FV.sh f))/\w.cell? ⟨g,i*4+1,none⟩=some (.int .i64 f.n)/\w.cell? ⟨g,i*4+2,none⟩=some (.string f.s)/\w.cell? ⟨g,i*4+3,none⟩=some (.slice f.la f.ln f.lc)/\Ba w B q f r:=by
 cases k with
 |zero=>obtain⟨_,_,_,h,_⟩:=c;subst h;simp at a
 |succ k=>
  obtain⟨_,_,_,_,fs,t,b,j⟩:=c;rcases b with e|⟨g,p,m,b⟩
  ·subst e;simp at a
  ·have u:=(wU.1 a).1
   have d:=wS (show i<fs.length by omega);obtain⟨c0,c1,c2,c3⟩:=b i _ d;exact⟨k,g,_,m,p,c0,c1,c2,c3,j i _ r d a⟩
theorem Ba.parts{w:World}{B:Nat->Prop}{k:Nat}{v:FV}{sh:Nat}{n:Int}{s:yF}{l:List RV}(e:Ba w B k v (.mk sh n s l)):v.sh=sh/\v.n=n/\v.s=s/\v.ln=l.length:=by
 cases k with
 |zero=>obtain⟨a,b,c,d,f⟩:=e;subst d;exact⟨a,b,c,f⟩
 |succ k=>obtain⟨a,b,c,d,_⟩:=e;exact⟨a,b,c,d⟩
theorem ON{α:Type}{l:List α}{i:Nat}{x:α}(a:l[i]?=some x):l.drop i=x::l.drop (i+1):=by
 obtain⟨b,rfl⟩:=wU.1 a;exact xX b
end Go.Proofs.YtogdodlibkckkaaGreatDoor
