import Derived.Test.YtogdodlibkckkaaGreatDoorZ01
import Derived.Lib.Strings
namespace Go.Proofs.YtogdodlibkckkaaGreatDoor
set_option maxHeartbeats 20000000
set_option maxRecDepth 100000
open Go.RowKit Tryz
def rk(k:Nat):Nat:=if k<=3 then k else 4
def rs(t:Tk):yF:=if t.k<=3 then t.s else if t.k=4 then⟨#[46,46,46]⟩else Az [Du.data.toList.getD (t.k-5) 0]
def Ad(s:yF):Option (List Tk):=if 4000<s.size then none else match Bf s.data.toList with
 |none=>none
 |some a=>if a.length<=800 then some a else none
theorem IF{w w':World}{base:Nat}{e:TypeId}{size:Nat}{v:Value}{n:Nat}{xs:List Value}(c:w.ownsRow base e size v n xs)(i:∀k,v.ownBlock=some k->k<w.heap.size->w'.heap[k]?=w.heap[k]?):w'.ownsRow base e size v n xs:=by
 refine⟨c.1,?_⟩;rcases c.2 with x|⟨g,cap,f,d,h,b,r⟩
 ·exact Or.inl x
 ·have j:g<w.heap.size:=by
   rcases Nat.lt_or_ge g w.heap.size with a|a
   ·exact a
   ·rw[Array.getElem?_eq_none a]at b;cases b
  exact Or.inr ⟨g,cap,f,d,h,by rw[i g (by rw[d];rfl) j];exact b,r⟩
theorem AT{w w':World}{base:Nat}{e:TypeId}{size:Nat}{v:Value}{n:Nat}{xs:List Value}(a:w.ownsRow base e size v n xs)(hb:yG w w'):w'.ownsRow base e size v n xs:=
 IF a fun k _ b=>hb.block k b
theorem PT{w:World}{base a:Nat}{e:TypeId}{size:Nat}{v:Value}{n:Nat}{xs:List Value}(b:w.ownsRow base e size v n xs)(hb:a<=base):w.ownsRow a e size v n xs:=by
 refine⟨b.1,?_⟩;rcases b.2 with x|⟨g,cap,c,d,f,r⟩
 ·exact Or.inl x
 ·exact Or.inr ⟨g,cap,c,d,by omega,r⟩
theorem cD(w:World)(l:List Value)(T:TypeId):∀j u,l[j]?=some u->(w.alloc (.cells l.toArray T)).cell? ((⟨w.heap.size,0,none⟩:Addr).add j)=some u:=by
 intro j u a;have e:(⟨w.heap.size,0,none⟩:Addr).add j=⟨w.heap.size,j,none⟩:=by simp only[Addr.add,Nat.zero_add];split<;>simp_all
 rw[e];unfold World.cell?;rw[wX w _];simp[a]
theorem lP(s:yF)(k:Nat)(b:k<s.size)(c:Ar Hv s[k]=false)(d:¬s[k]=35)(a:Bm (s.data.toList.drop k)=none):Bf (s.data.toList.drop k)=none:=by
 rw[EO s k b]at a⊢;exact lR _ _ c d a
theorem lQ(s:yF)(k:Nat)(x:Tk×Nat)(b:k<s.size)(c:Ar Hv s[k]=false)(d:¬s[k]=35)(a:Bm (s.data.toList.drop k)=some x):Bf (s.data.toList.drop k)=(Bf (s.data.toList.drop (k+x.2))).map (x.1:: ·):=by
 have:=EO s k b;rw[this]at a;rw[this,mA _ _ x c d a,<-this,List.drop_drop]
theorem lE(s:yF)(k:Nat)(a:k<s.size)(b:Ar DK s[k]=true):Bm (s.data.toList.drop k)=some (⟨1,s.extract k (k+Av (s.data.toList.drop k) AL),0⟩,Av (s.data.toList.drop k) AL):=by
 have e:s.extract k (k+Av (s.data.toList.drop k) AL)=Az ((s.data.toList.drop k).take (Av (s.data.toList.drop k) AL)):=by
  apply ByteArray.ext;apply Array.toList_inj.1;simp[Az]
 rw[e,EO s k a];simp only[Bm];rw[xH b]
theorem VX(s:yF)(k:Nat)(a:k<s.size)(b:Ar DK s[k]=false)(c:Ar Gx s[k]=true):Bm (s.data.toList.drop k)=(BJ (s.data.toList.drop k)).map fun x=>(⟨2,⟨#[]⟩,x.1⟩,x.2):=by
 rw[EO s k a];simp only[Bm];rw[xG (by simp[b]),xH c]
theorem lD(s:yF)(k:Nat)(a:k<s.size)(b:Ar DK s[k]=false)(c:Ar Gx s[k]=false)(d:s[k]=34):Bm (s.data.toList.drop k)=(Cm (s.data.toList.drop (k+1)) [] 1).map fun x=>(⟨3,Az x.1,0⟩,x.2):=by
 rw[EO s k a];simp only[Bm];rw[xG (by simp[b]),xG (by simp[c]),xH d]
theorem kY(s:yF)(k:Nat)(b:k<s.size)(c:Ar DK s[k]=false)(d:Ar Gx s[k]=false)(e:¬s[k]=34)(a:(s.data.toList.drop k).take 3=[46,46,46]):Bm (s.data.toList.drop k)=some (⟨4,⟨#[]⟩,0⟩,3):=by
 rw[EO s k b]at a⊢;simp only[Bm];rw[xG (by simp[c]),xG (by simp[d]),xG e,xH a]
theorem lB(s:yF)(k:Nat)(b:k<s.size)(c:Ar DK s[k]=false)(d:Ar Gx s[k]=false)(e:¬s[k]=34)(a:¬(s.data.toList.drop k).take 3=[46,46,46]):Bm (s.data.toList.drop k)=(GJ Du.data.toList s[k] 5).map fun i=>(⟨i,⟨#[]⟩,0⟩,1):=by
 rw[EO s k b]at a⊢;simp only[Bm];rw[xG (by simp[c]),xG (by simp[d]),xG e,xG a]
theorem Cz(w:World)(g:Nat)(l:List Value)(T:TypeId)(a:g=w.heap.size):∀j u,l[j]?=some u->(w.alloc (.cells l.toArray T)).cell? ((⟨g,0,none⟩:Addr).add j)=some u:=by
 subst a;exact cD w l T
theorem An{w:World}{base:Nat}{e:TypeId}{size:Nat}{v:Value}{n:Nat}{xs:List Value}(b:w.ownsRow base e size v n xs):∃a cap,v=.slice a n cap:=by
 rcases b.2 with⟨x,y⟩|⟨g,cap,d,c,r⟩
 ·subst y;exact⟨none,0,x⟩
 ·exact⟨_,_,c⟩
theorem pH{a b c:Value}(e:a.oneCell'=true)(f:b.oneCell'=true)(g:c.oneCell'=true):∀u∈[a,b,c],u.oneCell'=true:=by
 intro u d;simp at d;rcases d with rfl|rfl|rfl<;>assumption
theorem uB(c:UInt8)(b:Ar Du c=true):∃i,GJ Du.data.toList c 5=some i/\5<=i/\i<=17/\Du.data.toList.getD (i-5) 0=c:=by
 have k:∀x:Fin 256,Ar Du (UInt8.ofFin x)=true->(match GJ Du.data.toList (UInt8.ofFin x) 5 with|none=>false|some i=>decide (5<=i/\i<=17/\Du.data.toList.getD (i-5) 0=UInt8.ofFin x))=true:=by decide+kernel
 have:=k c.toFin b;rw[show UInt8.ofFin c.toFin=c from rfl]at this;cases a:GJ Du.data.toList c 5 with
 |none=>rw[a]at this;cases this
 |some i=>rw[a]at this;simp only[xK]at this;exact⟨i,rfl,this⟩
theorem uA(c:UInt8)(a:Ar Du c=false):GJ Du.data.toList c 5=none:=by
 have k:∀x:Fin 256,Ar Du (UInt8.ofFin x)=false->(GJ Du.data.toList (UInt8.ofFin x) 5).isNone=true:=by decide+kernel
 have:=k c.toFin a;rw[show UInt8.ofFin c.toFin=c from rfl]at this;exact Option.isNone_iff_eq_none.1 this
theorem uR(s:yF)(k:Nat):((s.extract k (k+3)).toList==[46,46,46])=decide ((s.data.toList.drop k).take 3=[46,46,46]):=by
 rw[Lib.toList_data,Lib.extract_data,show k+3-k=3 from by omega];rw[Bool.eq_iff_iff];simp
theorem dU(s:yF)(a:Bf s.data.toList=none):Ad s=none:=by
 unfold Ad;rw[a];split<;>rfl
abbrev St:=Option (List Tk)
def LE:Tk:=⟨0,⟨#[]⟩,0⟩
def hd:St->Tk
 |some (t::_)=>t
 |_=>LE
def tl:St->St
 |some (_::l)=>some l
 |s=>s
def ln:St->Nat
 |none=>0
 |some l=>l.length+1
def Ae(s:St)(k:Nat):Bool:=(hd s).k==k
def Bu(s:St)(x:yF):Bool:=(hd s).k==1&&decide ((hd s).s=x)
def nm(s:St):yF:=if Ae s 1=true then(hd s).s else⟨#[]⟩
def nmT(s:St):St:=if Ae s 1=true then tl s else none
def mayT(s:St)(b:Bool):St:=if b=true then tl s else s
def mustT(s:St)(b:Bool):St:=if b=true then tl s else none
def Lm(t:Tk):Prop:=1<=t.k/\t.k<=17/\t.s.size<=4000/\(t.k=1->0<t.s.size)
theorem IA(k:Nat)(a:k≠0):Ae none k=false:=by simp[Ae,hd,LE];omega
theorem Lf(k:Nat)(a:k≠0):Ae (some []) k=false:=by simp[Ae,hd,LE];omega
theorem nA(s:St)(a:Ae s 0=false)(b:s≠none):ln (tl s)+1=ln s:=by
 match s with
 |none=>exact absurd rfl b
 |some []=>simp[Ae,hd,LE]at a
 |some (t::l)=>rfl
theorem BI(s:St):ln (tl s)<=ln s:=by
 match s with
 |none=>exact wQ _
 |some []=>exact wQ _
 |some (t::l)=>simp[tl,ln]
theorem ET(s:St)(k:Nat)(b:k≠0)(a:Ae s k=true):ln (tl s)<ln s:=by
 match s with
 |none=>rw[IA k b]at a;cases a
 |some []=>rw[Lf k b]at a;cases a
 |some (t::l)=>simp[tl,ln]
structure Ag(b:Nat)(w w':World):Prop where
 os:w'.os=w.os
 tape:w'.tape=w.tape
 output:w'.output=w.output
 size:w.heap.size<=w'.heap.size
 block:∀k,k<w.heap.size->k≠b->w'.heap[k]?=w.heap[k]?
theorem Ag.refl(b:Nat)(w:World):Ag b w w:=⟨rfl,rfl,rfl,wQ _,fun _ _ _=>rfl⟩
theorem Ag.trans{b:Nat}{x y z:World}(a:Ag b x y)(k:Ag b y z):Ag b x z:=
 ⟨k.os.trans a.os,k.tape.trans a.tape,k.output.trans a.output,wV a.size k.size,fun i c hb=>(k.block i (xA c a.size) hb).trans (a.block i c hb)⟩
theorem Ag.of_below{b:Nat}{w w':World}(a:yG w w'):Ag b w w':=⟨a.os,a.tape,a.output,a.size,fun k c _=>a.block k c⟩
theorem Ag.alloc{b:Nat}{x y:World}(a:Ag b x y)(o:Obj):Ag b x (y.alloc o):=a.trans (Ag.of_below ((wR _ _).alloc (wQ _) _))
theorem Ag.setCell{b:Nat}{x y:World}(a:Ag b x y)(i:Nat)(v:Value):Ag b x (y.setCell ⟨b,i,none⟩ v):=
 a.trans ⟨rfl,rfl,rfl,by simp[World.setCell],fun k _ hb=>xC _ _ _ _ hb⟩
theorem Ag.setNew{b:Nat}{x y:World}(c:Ag b x y)(a:Addr)(e:x.heap.size<=a.block)(v:Value):Ag b x (y.setCell a v):=
 ⟨c.os,c.tape,c.output,wV c.size (by simp[World.setCell]),fun k d hb=>by rw[xC _ _ _ _ (by omega)];exact c.block k d hb⟩
theorem Ag.drew{b:Nat}{x y:World}(a:Ag b x y):Ag b x y.drew:=⟨a.os,a.tape,a.output,a.size,a.block⟩
theorem Ag.grown{b:Nat}{x y z:World}{row:Option Nat}(a:Ag b x y)(c:y.grownBy z row)(f:∀k,row=some k->x.heap.size<=k):Ag b x z:=
 ⟨c.os.trans a.os,c.tape.trans a.tape,c.output.trans a.output,wV a.size c.size,fun k d hb=>(c.block k (xA d a.size) (fun e=>by have:=f k e.symm;omega)).trans (a.block k d hb)⟩
theorem Ag.below{b B:Nat}{x y:World}(a:Ag b x y)(hb:B<=b)(c:B<=x.heap.size):Below B x y:=⟨a.os,a.tape,a.output,a.size,fun k d=>a.block k (by omega) (by omega)⟩
theorem Ab{w:World}{b:Nat}{o:Obj}(c:w.heap[b]?=some o):b<w.heap.size:=by
 rcases Nat.lt_or_ge b w.heap.size with a|a
 ·exact a
 ·rw[Array.getElem?_eq_none a]at c;cases c
theorem AI{w:World}{b:Nat}{cs:Array Value}{T:TypeId}{a:Nat×Nat}(c:w.heap[b]?=some (.cells cs T a))(i:Nat)(v:Value):(w.setCell ⟨b,i,none⟩ v).heap[b]?=some (.cells (cs.setIfInBounds i v) T a):=by
 simp only[World.setCell,Array.getElem?_modify,if_true,c];rfl
theorem Ac{w:World}{b:Nat}{cs:Array Value}{T:TypeId}{a:Nat×Nat}(c:w.heap[b]?=some (.cells cs T a))(i:Nat):w.cell? ⟨b,i,none⟩=cs[i]?:=by
 unfold World.cell?;rw[c];simp
theorem Ak{w:World}{b:Nat}{cs:Array Value}{T:TypeId}(a:w.heap[b]?=some (.cells cs T (0,0)))(i:Nat):w.frozen? ⟨b,i,none⟩=false:=by
 unfold World.frozen?;rw[a];simp
theorem Ls(c:World)(N b:Nat)(a:b≠N)(x y z:Value):(((c.setCell ⟨N,0,none⟩ x).setCell ⟨N,1,none⟩ y).setCell ⟨N,2,none⟩ z).heap[b]?=c.heap[b]?:=by
 rw[xC _ _ _ _ a,xC _ _ _ _ a,xC _ _ _ _ a]
theorem AJ(a:World)(o:Obj)(b:Nat)(c:b<a.heap.size):(a.alloc o).heap[b]?=a.heap[b]?:=Below.heap_alloc _ _ _ c
theorem uD:∀(n:Nat) (l b:List UInt8) (m:Nat) (x:List UInt8×Nat),l.length<=n->Cm l b m=some x->x.1.length<=b.length+l.length:=by
 intro n
 induction n with
 |zero=>intro l b m x f a;have:l=[]:=xE (by omega);subst this;cases a
 |succ n k=>
  intro l b m x f a
  match l with
  |[]=>cases a
  |c::r=>
   rw[Ky]at a;simp only[xU]at f⊢;by_cases g:c=34
   ·rw[xH g]at a;cases a;simp only;omega
   rw[xG g]at a;by_cases h:c<32\/126<c
   ·rw[xH h]at a;cases a
   rw[xG h]at a;by_cases i:c=92
   ·rw[xH i]at a
    match r with
    |[]=>cases a
    |d::p=>
     cases j:Fk d with
     |none=>simp[j]at a
     |some e=>
      simp only[j]at a;simp only[xU]at f⊢;have:=k p _ _ x (by omega) a;simp only[xJ,xU,List.length_nil]at this;omega
   ·rw[xG i]at a
    have:=k r _ _ x (by omega) a;simp only[xJ,xU,List.length_nil]at this;omega
theorem kZ(l:List UInt8)(x:Tk×Nat)(q:l.length<=4000)(a:Bm l=some x):Lm x.1:=by
 have hs:=Pk l x a;unfold Bm at a;split at a
 ·cases a
 ·rename_i c r
  by_cases d:Ar DK c=true
  ·rw[xH d]at a;cases a
   have m:(Az ((c::r).take (Av (c::r) AL))).size=Av (c::r) AL:=by
    show((c::r).take (Av (c::r) AL)).toArray.size=_;rw[List.size_toArray,List.length_take];have:=Kv (c::r) AL;omega
   have:=hs.1;have:=hs.2;simp only at*;exact⟨wQ 1,show 1<=17 by decide,by rw[m];omega,fun _=>by rw[m];omega⟩
  rw[xG d]at a;by_cases f:Ar Gx c=true
  ·rw[xH f]at a
   cases b:BJ (c::r)with
   |none=>simp[b]at a
   |some y=>simp only[b,Option.map_some,Option.some.injEq]at a;subst a;exact⟨show 1<=2 by decide,show 2<=17 by decide,show(⟨#[]⟩:yF).size<=4000 by decide,fun e=>by cases e⟩
  rw[xG f]at a;by_cases g:c=34
  ·rw[xH g]at a
   cases b:Cm r [] 1 with
   |none=>simp[b]at a
   |some y=>
    simp only[b,Option.map_some,Option.some.injEq]at a;subst a;have:=uD _ _ _ _ _ (wQ _) b;simp only[xU,List.length_nil]at this q;refine⟨by simp,by simp,?_,fun e=>by cases e⟩;show y.1.toArray.size<=4000;rw[List.size_toArray];omega
  rw[xG g]at a;by_cases h:(c::r).take 3=[46,46,46]
  ·rw[xH h]at a;cases a;exact⟨by decide,by decide,by decide,fun e=>by cases e⟩
  rw[xG h]at a;cases b:GJ Du.data.toList c 5 with
  |none=>simp[b]at a
  |some i=>
   simp only[b,Option.map_some,Option.some.injEq]at a;subst a;cases k:Ar Du c with
   |false=>rw[uA c k]at b;cases b
   |true=>
    obtain⟨j,n,s,p,_⟩:=uB c k;rw[n]at b;cases b;exact⟨by simp only;omega,p,show(⟨#[]⟩:yF).size<=4000 by decide,fun e=>by simp only at e;omega⟩
theorem lJ:∀(f:Nat) (l:List UInt8) (b:List Tk),l.length<=4000->Ez f l=some b->∀t∈b,Lm t:=by
 intro f
 induction f with
 |zero=>intro l b _ a;cases a
 |succ f i=>
  intro l b m a
  match l with
  |[]=>cases a;intro t d;cases d
  |c::r=>
   simp only[Ez]at a;simp only[xU]at m;by_cases j:Ar Hv c=true
   ·rw[xH j]at a;exact i r b (by omega) a
   rw[xG j]at a;by_cases k:c=35
   ·rw[xH k]at a
    have:=OO (· !=10) r;exact i _ b (by omega) a
   rw[xG k]at a;cases g:Bm (c::r)with
   |none=>rw[g]at a;cases a
   |some x=>
    rw[g]at a;simp only at a;cases h:Ez f ((c::r).drop x.2)with
    |none=>rw[h]at a;cases a
    |some n=>
     rw[h]at a;simp only[Option.map_some,Option.some.injEq]at a;subst a;intro t d;rcases yE.1 d with e|e
     ·rw[e];exact kZ _ _ (by simpa using m) g
     ·exact i _ n (by simp;omega) h t e
theorem Nn(s:yF)(d:List Tk)(a:Ad s=some d):(∀t∈d,Lm t)/\d.length<=800:=by
 unfold Ad at a;by_cases e:4000<s.size
 ·rw[xH e]at a;cases a
 rw[xG e]at a;cases c:Bf s.data.toList with
 |none=>rw[c]at a;cases a
 |some l=>
  rw[c]at a;simp only at a;by_cases b:l.length<=800
  ·rw[xH b]at a;cases a
   exact⟨lJ _ _ _ (by show s.size<=4000;omega) c,b⟩
  ·rw[xG b]at a;cases a
theorem So{w x:World}{base n size:Nat}{e:TypeId}{v:Value}{xs:List Value}(a:w.ownsRow base e size v n xs)(d:∀k,v.ownBlock=some k->x.heap[k]?=w.heap[k]?):x.ownsRow base e size v n xs:=by
 refine⟨a.1,?_⟩;rcases a.2 with q|⟨g,cap,c,b,f,h,r⟩
 ·exact Or.inl q
 ·exact Or.inr ⟨g,cap,c,b,f,(d g (by rw[b];rfl)).trans h,r⟩
theorem FE{w:World}{B C size n:Nat}{e:TypeId}{v:Value}{xs:List Value}(a:w.ownsRow B e size v n xs)(h:C<=B):w.ownsRow C e size v n xs:=by
 refine⟨a.1,?_⟩;rcases a.2 with a|⟨g,cap,b,c,d,f⟩
 ·exact Or.inl a
 ·exact Or.inr ⟨g,cap,b,c,wV h d,f⟩
theorem Ds{b:World}{B0 size n N:Nat}{e:TypeId}{v:Value}{xs:List Value}(a:b.ownsRow B0 e size v n xs)(l:v.ownBlock≠some N)(i:Nat)(u:Value):(b.setCell ⟨N,i,none⟩ u).ownsRow B0 e size v n xs:=by
 refine⟨a.1,?_⟩;rcases a.2 with a|⟨g,cap,d,c,h,j,k⟩
 ·exact Or.inl a
 ·exact Or.inr ⟨g,cap,d,c,h,(xC _ _ _ _ (fun e=>l (by have f:g=N:=e;rw[c,<-f];rfl))).trans j,k⟩
end Go.Proofs.YtogdodlibkckkaaGreatDoor
