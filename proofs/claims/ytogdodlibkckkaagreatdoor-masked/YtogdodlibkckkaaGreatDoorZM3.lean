import Derived.Test.YtogdodlibkckkaaGreatDoorZM2
namespace Go.Proofs.YtogdodlibkckkaaGreatDoor
set_option maxHeartbeats 20000000
set_option maxRecDepth 100000
open Go.RowKit Tryz
def clV(c:IN):List Value:=[.string c.1,.string c.2]
def rwV(r:AY×Value):List Value:=[.string r.1.1,.string r.1.2.1,r.2]
theorem ADq(cs:List IN):∀(j:Nat) (c:IN),cs[j]?=some c->(cs.flatMap clV)[j*2]?=some (.string c.1)/\(cs.flatMap clV)[j*2+1]?=some (.string c.2):=by
 induction cs with
 |nil=>intro j c a;simp at a
 |cons d cs b=>
  intro j c a;cases j with
  |zero=>simp only[List.getElem?_cons_zero,Option.some.injEq]at a;subst a;exact⟨rfl,rfl⟩
  |succ j=>
   have:=b j c (by simpa using a);rw[show(j+1)*2=j*2+1+1 from by omega];exact this
theorem ADr(rs:List (AY×Value)):∀(j:Nat) (r:AY×Value),rs[j]?=some r->(rs.flatMap rwV)[j*3]?=some (.string r.1.1)/\(rs.flatMap rwV)[j*3+1]?=some (.string r.1.2.1)/\(rs.flatMap rwV)[j*3+2]?=some r.2:=by
 induction rs with
 |nil=>intro j c a;simp at a
 |cons d cs b=>
  intro j c a;cases j with
  |zero=>simp only[List.getElem?_cons_zero,Option.some.injEq]at a;subst a;exact⟨rfl,rfl,rfl⟩
  |succ j=>
   have:=b j c (by simpa using a);rw[show(j+1)*3=j*3+1+1+1 from by omega];exact this
theorem ADB{w:World}{g cap:Nat}{cs:List IN}{xs:List Value}{T:TypeId}{f:Nat×Nat}(h:w.heap[g]?=some (.cells (cs.flatMap clV++xs).toArray T f))(k:cs.length<=cap):Jr w (.slice (some ⟨g,0,none⟩) cs.length cap) cs:=by
 refine⟨_,_,rfl,k,.inr ⟨g,0,rfl,fun j c e=>?_⟩⟩;obtain⟨a,b⟩:=ADq cs j c e;have r:(cs.flatMap clV).length=cs.length*2:=by
  have:∀l:List IN,(l.flatMap clV).length=l.length*2:=fun l=>by induction l with
   |nil=>rfl
   |cons d l n=>rw[List.flatMap_cons,xJ,n];simp[clV];omega
  exact this cs
 have p:=(wU.1 e).1;have q:∀i,i<(cs.flatMap clV).length->w.cell? ⟨g,i,none⟩=(cs.flatMap clV)[i]?:=fun i m=>by
  rw[Ac h];simp only[List.getElem?_toArray];exact xN m
 refine⟨?_,?_⟩
 ·rw[Nat.zero_add,q _ (by omega)];exact a
 ·rw[Nat.zero_add,q _ (by omega)];exact b
theorem ADX{w:World}{g:Nat}{rs:List (AY×Value)}{T:TypeId}{h:Nat×Nat}(k:w.heap[g]?=some (.cells (rs.flatMap rwV).toArray T h))(l:∀r∈rs,Jr w r.2 r.1.2.2):Fv w (.slice (some ⟨g,0,none⟩) rs.length rs.length) (rs.map Prod.fst):=by
 refine⟨some ⟨g,0,none⟩,rs.length,by rw[xT],by rw[xT];exact wQ _,.inr ⟨g,0,rfl,fun j r e=>?_⟩⟩;rw[xI]at e;obtain⟨d,f,rfl⟩:=yC.1 e;obtain⟨a,b,c⟩:=ADr rs j d f;have q:∀i,w.cell? ⟨g,i,none⟩=(rs.flatMap rwV)[i]?:=fun i=>by
  rw[Ac k,List.getElem?_toArray]
 refine⟨by rw[Nat.zero_add,q];exact a,by rw[Nat.zero_add,q];exact b,d.2,by rw[Nat.zero_add,q];exact c,l d (wT f)⟩
def pc1:List IN:=[(⟨#[116,101,97,109]⟩,⟨#[91,64,34,97,34,32,64,34,98,34,32,64,34,122,34,93]⟩)]
def pc2:List IN:=[(⟨#[110,97,109,101]⟩,⟨#[34,65,110,110,34]⟩),(⟨#[111,112,101,110]⟩,⟨#[116,114,117,101]⟩),(⟨#[112,97,121]⟩,⟨#[55]⟩),(⟨#[102,114,105,101,110,100]⟩,⟨#[64,34,98,34]⟩)]
def pc3(y:yF):List IN:=[(⟨#[110,97,109,101]⟩,y),(⟨#[111,112,101,110]⟩,⟨#[102,97,108,115,101]⟩)]
def ACN:yF:=⟨#[80,101,114,115,111,110]⟩
def rwB(a b c d k2:Nat):Array Value:=#[.string bQ,.string ⟨#[]⟩,.slice (some ⟨a,0,none⟩) 1 1,.string ACN,.string ⟨#[97]⟩,.slice (some ⟨b,0,none⟩) d k2,.string ACN,.string ⟨#[98]⟩,.slice (some ⟨c,0,none⟩) 2 2]
structure PBk(w:World)(g g1 g2 g3:Nat)(y:yF):Prop where
 r:w.heap[g]?=some (.cells (rwB g1 g2 g3 4 4) 38 (0,0))
 c1:w.heap[g1]?=some (.cells (pc1.flatMap clV).toArray 41 (0,0))
 c2:w.heap[g2]?=some (.cells (pc2.flatMap clV).toArray 41 (0,0))
 c3:w.heap[g3]?=some (.cells ((pc3 y).flatMap clV).toArray 41 (0,0))
theorem AEb(w:World)(name:yF):Calls prog 11 #[.string name] w fun e w'=>∃g d f h,e=.returned (.slice (some ⟨g,0,none⟩) 3 3)/\PBk w' g d f h (Mh name)/\yG w w'/\w.heap.size<=d/\d<f/\f<h/\h<g:=by
 have q:=Aa (fun W=>kK W name);generalize Mh name=m at*;go_enter func11,ntmps11;go_wp2_with fail;refine(q.o _).mono ?_;rintro _ w1 ⟨rfl,b⟩;have v:=b.size;simp at v;have c:=Ox w (.cells #[.string ⟨#[116,101,97,109]⟩,.string ⟨#[91,64,34,97,34,32,64,34,98,34,32,64,34,122,34,93]⟩] 41) (.cells #[.string ⟨#[110,97,109,101]⟩,.string ⟨#[34,65,110,110,34]⟩,.string ⟨#[111,112,101,110]⟩,.string ⟨#[116,114,117,101]⟩,.string ⟨#[112,97,121]⟩,.string ⟨#[55]⟩,.string ⟨#[102,114,105,101,110,100]⟩,.string ⟨#[64,34,98,34]⟩] 41);have n:=Aa (show yG w w1 from bT (bA (bA (wR _ _) _) _) b);have i:=(b.block _ (Ab c.1)).trans c.1;have k2:=(b.block _ (Ab c.2)).trans c.2;have j:=Ox w1 (.cells #[.string ⟨#[110,97,109,101]⟩,.string m,.string ⟨#[111,112,101,110]⟩,.string ⟨#[102,97,108,115,101]⟩] 41) (.cells #[.string ⟨#[81,117,101,114,121]⟩,.string ⟨#[]⟩,.slice (some ⟨w.heap.size,0,none⟩) 1 1,.string ⟨#[80,101,114,115,111,110]⟩,.string ⟨#[97]⟩,.slice (some ⟨w.heap.size+1,0,none⟩) 4 4,.string ⟨#[80,101,114,115,111,110]⟩,.string ⟨#[98]⟩,.slice (some ⟨w1.heap.size,0,none⟩) 2 2] 38);have a:=bA (bA (wR w1.heap.size w1) (.cells #[.string ⟨#[110,97,109,101]⟩,.string m,.string ⟨#[111,112,101,110]⟩,.string ⟨#[102,97,108,115,101]⟩] 41)) (.cells #[.string ⟨#[81,117,101,114,121]⟩,.string ⟨#[]⟩,.slice (some ⟨w.heap.size,0,none⟩) 1 1,.string ⟨#[80,101,114,115,111,110]⟩,.string ⟨#[97]⟩,.slice (some ⟨w.heap.size+1,0,none⟩) 4 4,.string ⟨#[80,101,114,115,111,110]⟩,.string ⟨#[98]⟩,.slice (some ⟨w1.heap.size,0,none⟩) 2 2] 38);have k:=(a.block _ (Ab i)).trans i;have l:=(a.block _ (Ab k2)).trans k2;have p:=Aa (xZ j (xZ a (xZ k l)));clear b c i k2 j a k l;go_wp2;go_ret;obtain⟨⟨t,u⟩,a,r,s⟩:=p.o;exact⟨w1.heap.size+1,w.heap.size,w.heap.size+1,w1.heap.size,rfl,⟨u,r,s,t⟩,bT n.o a,by omega,by omega,by omega,by omega⟩
def mQs(QQ:yF):List yF:=[mq1,mq2,mq3,mq4,idQ QQ]
theorem ACM(t:yF):(Mh t).size<=102:=by
 have a:(Mh t).size=(kqF t).length+2:=by
  have:(Mh t).size=(Mh t).data.toList.length:=by simp
  rw[this,ADM];simp
 have:=ACr t;omega
theorem smA{y z:yF}(d:y.size<=102)(e:z.size<=102):QI (ABe y z):=by
 refine⟨Nat.le_of_ble_eq_true rfl,fun r b=>?_⟩;unfold ABe at b;simp only[yE,List.not_mem_nil,or_false]at b;rcases b with rfl|rfl|rfl
 ·decide
 ·refine⟨Nat.le_of_ble_eq_true rfl,Nat.le_of_ble_eq_true rfl,fun c a=>?_⟩
  simp only[yE,List.not_mem_nil,or_false]at a;rcases a with rfl|rfl|rfl|rfl|rfl<;>first|decide|(show z.size<=2000000;omega)
 ·refine⟨Nat.le_of_ble_eq_true rfl,Nat.le_of_ble_eq_true rfl,fun c a=>?_⟩
  simp only[yE,List.not_mem_nil,or_false]at a;rcases a with rfl|rfl<;>first|decide|(show y.size<=2000000;omega)
theorem smB{y:yF}(d:y.size<=102):QI (ABn y):=by
 refine⟨Nat.le_of_ble_eq_true rfl,fun r a=>?_⟩;unfold ABn at a;simp only[yE,List.not_mem_nil,or_false]at a;rcases a with rfl|rfl|rfl
 ·decide
 ·decide
 ·refine⟨Nat.le_of_ble_eq_true rfl,Nat.le_of_ble_eq_true rfl,fun c b=>?_⟩
  simp only[yE,List.not_mem_nil,or_false]at b;rcases b with rfl|rfl<;>first|decide|(show y.size<=2000000;omega)
theorem smC{z:yF}(d:z.size<=102):QI (ABj z):=by
 refine⟨Nat.le_of_ble_eq_true rfl,fun r a=>?_⟩;unfold ABj at a;simp only[yE,List.not_mem_nil,or_false]at a;rcases a with rfl|rfl
 ·decide
 ·refine⟨Nat.le_of_ble_eq_true rfl,Nat.le_of_ble_eq_true rfl,fun c b=>?_⟩
  simp only[yE,List.not_mem_nil,or_false]at b;rcases b with rfl|rfl|rfl|rfl|rfl<;>first|decide|(show z.size<=2000000;omega)
theorem ABg{ys:List AY}(b:Eo La ys=0){role q a:yF}(e:Ft La ys role bE q bE 5000=a):Kc La ys role bE q bE 5000=(a,true):=by
 unfold Kc;rw[xH b,e]
theorem AEM(name other id f:yF)(i:Nat)(q:yF)(b:(mQs (Mh (idT id)))[i]?=some q):∃a,Kc La (ABe (Mh name) (Mh f)) AFN bE q bE 5000=(a,true)/\Kc La (ABn (Mh other)) AFN bE q bE 5000=(a,true)/\Kc La (ABj (Mh f)) AFN bE q bE 5000=(a,true)/\q.size<=2000000:=by
 have c:=ACO (ABr name) (ABr f);have d:=AEg (ABr other);have e:=AEh (ABr f);unfold mQs at b
 match i,b with
 |0,b=>simp only[List.getElem?_cons_zero,Option.some.injEq]at b;subst b;exact⟨ml1,ABg c (m1A _ _),ABg d (m1B _),ABg e (m1C _),by decide⟩
 |1,b=>simp only[List.getElem?_cons_succ,List.getElem?_cons_zero,Option.some.injEq]at b;subst b;exact⟨ml2,ABg c (m2A _ _),ABg d (m2B _),ABg e (m2C _),by decide⟩
 |2,b=>simp only[List.getElem?_cons_succ,List.getElem?_cons_zero,Option.some.injEq]at b;subst b;exact⟨ml3,ABg c (m3A _ _),ABg d (m3B _),ABg e (m3C _),by decide⟩
 |3,b=>simp only[List.getElem?_cons_succ,List.getElem?_cons_zero,Option.some.injEq]at b;subst b;exact⟨ml4,ABg c (m4A _ _),ABg d (m4B _),ABg e (m4C _),by decide⟩
 |4,b=>
  simp only[List.getElem?_cons_succ,List.getElem?_cons_zero,Option.some.injEq]at b;subst b;refine⟨ml1,ABg c (idA _ _ _),ABg d (idB _ _),ABg e (idC _ _),?_⟩;have:=ACM (idT id);unfold idQ;simp only[ByteArray.size_append];have g:(⟨#[123,109,101,40,105,100,58]⟩:yF).size=7:=rfl;have h:(⟨#[41,123,110,97,109,101,125,125]⟩:yF).size=8:=rfl;omega
 |n+5,b=>simp at b
theorem ACZ(b:World)(ys:List AY)(k:QI ys)(hit:GM b)(a:Option Addr)(n c:Nat)(h:n=ys.length)(f:Fv b (.slice a n c) ys)(role q d:yF)(j:role.size<=2000000)(i:q.size<=2000000)(g:Kc La ys role bE q bE 5000=(d,true)):
 Calls prog 10 #[.string La,.slice a n c,.agg #[.string role,.string ⟨#[]⟩,.string q,.string ⟨#[]⟩,.int .i64 5000]] b fun e w'=>e=.returned (.tuple #[.string d,.bool true])/\yG b w':=by
 subst h;have:=Ue La b (by decide) a c ys f k hit role bE q bE 5000 j i (by decide);rw[g]at this;exact this
end Go.Proofs.YtogdodlibkckkaaGreatDoor
