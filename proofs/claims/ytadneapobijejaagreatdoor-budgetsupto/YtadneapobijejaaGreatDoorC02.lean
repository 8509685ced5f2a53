import Derived.Test.YtadneapobijejaaGreatDoorC01
import Derived.Lib.Strings
namespace Go.Proofs.YtadneapobijejaaGreatDoor
set_option maxHeartbeats 20000000
set_option maxRecDepth 100000
open Go.RowKit Tryz
def rk(k:Nat):Nat:=if k<=3 then k else 4
def rs(t:Tk):vD:=if t.k<=3 then t.s else if t.k=4 then⟨#[46,46,46]⟩else Az [Dp.data.toList.getD (t.k-5) 0]
def Af(s:vD):Option (List Tk):=if 4000<s.size then none else match Bb s.data.toList with
 |none=>none
 |some ts=>if ts.length<=800 then some ts else none
theorem It{w w':World}{base:Nat}{e:TypeId}{size:Nat}{v:Value}{n:Nat}{xs:List Value}(h:w.ownsRow base e size v n xs)(hk:∀k,v.ownBlock=some k->k<w.heap.size->w'.heap[k]?=w.heap[k]?):w'.ownsRow base e size v n xs:=by
 refine⟨h.1,?_⟩;rcases h.2 with x|⟨g,cap,cur,hv,hg,hh,r⟩
 ·exact Or.inl x
 ·have hlt:g<w.heap.size:=by
   rcases Nat.lt_or_ge g w.heap.size with a|a
   ·exact a
   ·rw[Array.getElem?_eq_none a]at hh;cases hh
  exact Or.inr ⟨g,cap,cur,hv,hg,by rw[hk g (by rw[hv];rfl) hlt];exact hh,r⟩
theorem AT{w w':World}{base:Nat}{e:TypeId}{size:Nat}{v:Value}{n:Nat}{xs:List Value}(h:w.ownsRow base e size v n xs)(hb:vE w w'):w'.ownsRow base e size v n xs:=
 It h fun k _ hk=>hb.block k hk
theorem OZ{w:World}{base base':Nat}{e:TypeId}{size:Nat}{v:Value}{n:Nat}{xs:List Value}(h:w.ownsRow base e size v n xs)(hb:base'<=base):w.ownsRow base' e size v n xs:=by
 refine⟨h.1,?_⟩;rcases h.2 with x|⟨g,cap,cur,hv,hg,r⟩
 ·exact Or.inl x
 ·exact Or.inr ⟨g,cap,cur,hv,by omega,r⟩
theorem ZK(w:World)(l:List Value)(T:TypeId):∀j u,l[j]?=some u->(w.alloc (.cells l.toArray T)).cell? ((⟨w.heap.size,0,none⟩:Addr).add j)=some u:=by
 intro j u h;have e:(⟨w.heap.size,0,none⟩:Addr).add j=⟨w.heap.size,j,none⟩:=by simp only[Addr.add,Nat.zero_add];split<;>simp_all
 rw[e];unfold World.cell?;rw[tS w _];simp[h]
theorem iJ(s:vD)(k:Nat)(h:k<s.size)(h1:Ar Hh s[k]=false)(h2:¬s[k]=35)(hx:Br (s.data.toList.drop k)=none):Bb (s.data.toList.drop k)=none:=by
 rw[ED s k h]at hx⊢;exact iL _ _ h1 h2 hx
theorem iK(s:vD)(k:Nat)(x:Tk×Nat)(h:k<s.size)(h1:Ar Hh s[k]=false)(h2:¬s[k]=35)(hx:Br (s.data.toList.drop k)=some x):Bb (s.data.toList.drop k)=(Bb (s.data.toList.drop (k+x.2))).map (x.1:: ·):=by
 have:=ED s k h;rw[this]at hx;rw[this,iW _ _ x h1 h2 hx,<-this,List.drop_drop]
theorem iG(s:vD)(k:Nat)(h:k<s.size)(h1:Ar Dw s[k]=true):Br (s.data.toList.drop k)=some (⟨1,s.extract k (k+Av (s.data.toList.drop k) AN),0⟩,Av (s.data.toList.drop k) AN):=by
 have e:s.extract k (k+Av (s.data.toList.drop k) AN)=Az ((s.data.toList.drop k).take (Av (s.data.toList.drop k) AN)):=by
  apply ByteArray.ext;apply Array.toList_inj.1;simp[Az]
 rw[e,ED s k h];simp only[Br];rw[uC h1]
theorem UR(s:vD)(k:Nat)(h:k<s.size)(h1:Ar Dw s[k]=false)(h2:Ar Gi s[k]=true):Br (s.data.toList.drop k)=(BK (s.data.toList.drop k)).map fun x=>(⟨2,⟨#[]⟩,x.1⟩,x.2):=by
 rw[ED s k h];simp only[Br];rw[uB (by simp[h1]),uC h2]
theorem iE(s:vD)(k:Nat)(h:k<s.size)(h1:Ar Dw s[k]=false)(h2:Ar Gi s[k]=false)(h3:s[k]=34):Br (s.data.toList.drop k)=(Cp (s.data.toList.drop (k+1)) [] 1).map fun x=>(⟨3,Az x.1,0⟩,x.2):=by
 rw[ED s k h];simp only[Br];rw[uB (by simp[h1]),uB (by simp[h2]),uC h3]
theorem iA(s:vD)(k:Nat)(h:k<s.size)(h1:Ar Dw s[k]=false)(h2:Ar Gi s[k]=false)(h3:¬s[k]=34)(h4:(s.data.toList.drop k).take 3=[46,46,46]):Br (s.data.toList.drop k)=some (⟨4,⟨#[]⟩,0⟩,3):=by
 rw[ED s k h]at h4⊢;simp only[Br];rw[uB (by simp[h1]),uB (by simp[h2]),uB h3,uC h4]
theorem iD(s:vD)(k:Nat)(h:k<s.size)(h1:Ar Dw s[k]=false)(h2:Ar Gi s[k]=false)(h3:¬s[k]=34)(h4:¬(s.data.toList.drop k).take 3=[46,46,46]):Br (s.data.toList.drop k)=(GT Dp.data.toList s[k] 5).map fun i=>(⟨i,⟨#[]⟩,0⟩,1):=by
 rw[ED s k h]at h4⊢;simp only[Br];rw[uB (by simp[h1]),uB (by simp[h2]),uB h3,uB h4]
theorem Cs(w:World)(g:Nat)(l:List Value)(T:TypeId)(hg:g=w.heap.size):∀j u,l[j]?=some u->(w.alloc (.cells l.toArray T)).cell? ((⟨g,0,none⟩:Addr).add j)=some u:=by
 subst hg;exact ZK w l T
theorem An{w:World}{base:Nat}{e:TypeId}{size:Nat}{v:Value}{n:Nat}{xs:List Value}(h:w.ownsRow base e size v n xs):∃a cap,v=.slice a n cap:=by
 rcases h.2 with⟨x,y⟩|⟨g,cap,cur,hv,r⟩
 ·subst y;exact⟨none,0,x⟩
 ·exact⟨_,_,hv⟩
theorem mD{a b c:Value}(h1:a.oneCell'=true)(h2:b.oneCell'=true)(h3:c.oneCell'=true):∀u∈[a,b,c],u.oneCell'=true:=by
 intro u hu;simp at hu;rcases hu with rfl|rfl|rfl<;>assumption
theorem rI(c:UInt8)(h:Ar Dp c=true):∃i,GT Dp.data.toList c 5=some i/\5<=i/\i<=17/\Dp.data.toList.getD (i-5) 0=c:=by
 have k:∀x:Fin 256,Ar Dp (UInt8.ofFin x)=true->(match GT Dp.data.toList (UInt8.ofFin x) 5 with|none=>false|some i=>decide (5<=i/\i<=17/\Dp.data.toList.getD (i-5) 0=UInt8.ofFin x))=true:=by decide+kernel
 have:=k c.toFin h;rw[show UInt8.ofFin c.toFin=c from rfl]at this;cases hx:GT Dp.data.toList c 5 with
 |none=>rw[hx]at this;cases this
 |some i=>rw[hx]at this;simp only[uF]at this;exact⟨i,rfl,this⟩
theorem rH(c:UInt8)(h:Ar Dp c=false):GT Dp.data.toList c 5=none:=by
 have k:∀x:Fin 256,Ar Dp (UInt8.ofFin x)=false->(GT Dp.data.toList (UInt8.ofFin x) 5).isNone=true:=by decide+kernel
 have:=k c.toFin h;rw[show UInt8.ofFin c.toFin=c from rfl]at this;exact Option.isNone_iff_eq_none.1 this
theorem sC(s:vD)(k:Nat):((s.extract k (k+3)).toList==[46,46,46])=decide ((s.data.toList.drop k).take 3=[46,46,46]):=by
 rw[Lib.toList_data,Lib.extract_data,show k+3-k=3 from by omega];rw[Bool.eq_iff_iff];simp
theorem aK(s:vD)(h:Bb s.data.toList=none):Af s=none:=by
 unfold Af;rw[h];split<;>rfl
abbrev St:=Option (List Tk)
def Li:Tk:=⟨0,⟨#[]⟩,0⟩
def hd:St->Tk
 |some (t::_)=>t
 |_=>Li
def tl:St->St
 |some (_::l)=>some l
 |s=>s
def ln:St->Nat
 |none=>0
 |some l=>l.length+1
def Ad(s:St)(k:Nat):Bool:=(hd s).k==k
def Bn(s:St)(x:vD):Bool:=(hd s).k==1&&decide ((hd s).s=x)
def nm(s:St):vD:=if Ad s 1=true then(hd s).s else⟨#[]⟩
def nmT(s:St):St:=if Ad s 1=true then tl s else none
def mayT(s:St)(b:Bool):St:=if b=true then tl s else s
def mustT(s:St)(b:Bool):St:=if b=true then tl s else none
def KU(t:Tk):Prop:=1<=t.k/\t.k<=17/\t.s.size<=4000/\(t.k=1->0<t.s.size)
theorem Io(k:Nat)(h:k≠0):Ad none k=false:=by simp[Ad,hd,Li];omega
theorem KN(k:Nat)(h:k≠0):Ad (some []) k=false:=by simp[Ad,hd,Li];omega
theorem jR(s:St)(h:Ad s 0=false)(h2:s≠none):ln (tl s)+1=ln s:=by
 match s with
 |none=>exact absurd rfl h2
 |some []=>simp[Ad,hd,Li]at h
 |some (t::l)=>rfl
theorem BG(s:St):ln (tl s)<=ln s:=by
 match s with
 |none=>exact tL _
 |some []=>exact tL _
 |some (t::l)=>simp[tl,ln]
theorem EG(s:St)(k:Nat)(hk:k≠0)(h:Ad s k=true):ln (tl s)<ln s:=by
 match s with
 |none=>rw[Io k hk]at h;cases h
 |some []=>rw[KN k hk]at h;cases h
 |some (t::l)=>simp[tl,ln]
structure Ag(b:Nat)(w w':World):Prop where
 os:w'.os=w.os
 tape:w'.tape=w.tape
 output:w'.output=w.output
 size:w.heap.size<=w'.heap.size
 block:∀k,k<w.heap.size->k≠b->w'.heap[k]?=w.heap[k]?
theorem Ag.refl(b:Nat)(w:World):Ag b w w:=⟨rfl,rfl,rfl,tL _,fun _ _ _=>rfl⟩
theorem Ag.trans{b:Nat}{x y z:World}(h:Ag b x y)(k:Ag b y z):Ag b x z:=
 ⟨k.os.trans h.os,k.tape.trans h.tape,k.output.trans h.output,tQ h.size k.size,fun i hi hb=>(k.block i (tV hi h.size) hb).trans (h.block i hi hb)⟩
theorem Ag.of_below{b:Nat}{w w':World}(h:vE w w'):Ag b w w':=⟨h.os,h.tape,h.output,h.size,fun k hk _=>h.block k hk⟩
theorem Ag.alloc{b:Nat}{x y:World}(h:Ag b x y)(o:Obj):Ag b x (y.alloc o):=h.trans (Ag.of_below ((tM _ _).alloc (tL _) _))
theorem Ag.setCell{b:Nat}{x y:World}(h:Ag b x y)(i:Nat)(v:Value):Ag b x (y.setCell ⟨b,i,none⟩ v):=
 h.trans ⟨rfl,rfl,rfl,by simp[World.setCell],fun k _ hb=>tX _ _ _ _ hb⟩
theorem Ag.setNew{b:Nat}{x y:World}(h:Ag b x y)(a:Addr)(ha:x.heap.size<=a.block)(v:Value):Ag b x (y.setCell a v):=
 ⟨h.os,h.tape,h.output,tQ h.size (by simp[World.setCell]),fun k hk hb=>by rw[tX _ _ _ _ (by omega)];exact h.block k hk hb⟩
theorem Ag.drew{b:Nat}{x y:World}(h:Ag b x y):Ag b x y.drew:=⟨h.os,h.tape,h.output,h.size,h.block⟩
theorem Ag.grown{b:Nat}{x y z:World}{row:Option Nat}(h:Ag b x y)(hg:y.grownBy z row)(hr:∀k,row=some k->x.heap.size<=k):Ag b x z:=
 ⟨hg.os.trans h.os,hg.tape.trans h.tape,hg.output.trans h.output,tQ h.size hg.size,fun k hk hb=>(hg.block k (tV hk h.size) (fun e=>by have:=hr k e.symm;omega)).trans (h.block k hk hb)⟩
theorem Ag.below{b B:Nat}{x y:World}(h:Ag b x y)(hb:B<=b)(hB:B<=x.heap.size):Below B x y:=⟨h.os,h.tape,h.output,h.size,fun k hk=>h.block k (by omega) (by omega)⟩
theorem Ab{w:World}{b:Nat}{o:Obj}(h:w.heap[b]?=some o):b<w.heap.size:=by
 rcases Nat.lt_or_ge b w.heap.size with a|a
 ·exact a
 ·rw[Array.getElem?_eq_none a]at h;cases h
theorem AI{w:World}{b:Nat}{cs:Array Value}{T:TypeId}{fr:Nat×Nat}(h:w.heap[b]?=some (.cells cs T fr))(i:Nat)(v:Value):(w.setCell ⟨b,i,none⟩ v).heap[b]?=some (.cells (cs.setIfInBounds i v) T fr):=by
 simp only[World.setCell,Array.getElem?_modify,if_true,h];rfl
theorem Ac{w:World}{b:Nat}{cs:Array Value}{T:TypeId}{fr:Nat×Nat}(h:w.heap[b]?=some (.cells cs T fr))(i:Nat):w.cell? ⟨b,i,none⟩=cs[i]?:=by
 unfold World.cell?;rw[h];simp
theorem Am{w:World}{b:Nat}{cs:Array Value}{T:TypeId}(h:w.heap[b]?=some (.cells cs T (0,0)))(i:Nat):w.frozen? ⟨b,i,none⟩=false:=by
 unfold World.frozen?;rw[h];simp
theorem La(X:World)(N b:Nat)(h:b≠N)(x y z:Value):(((X.setCell ⟨N,0,none⟩ x).setCell ⟨N,1,none⟩ y).setCell ⟨N,2,none⟩ z).heap[b]?=X.heap[b]?:=by
 rw[tX _ _ _ _ h,tX _ _ _ _ h,tX _ _ _ _ h]
theorem AK(X:World)(o:Obj)(b:Nat)(h:b<X.heap.size):(X.alloc o).heap[b]?=X.heap[b]?:=Below.heap_alloc _ _ _ h
theorem rK:∀(n:Nat) (l acc:List UInt8) (m:Nat) (x:List UInt8×Nat),l.length<=n->Cp l acc m=some x->x.1.length<=acc.length+l.length:=by
 intro n
 induction n with
 |zero=>intro l acc m x hl h;have:l=[]:=tZ (by omega);subst this;cases h
 |succ n ih=>
  intro l acc m x hl h
  match l with
  |[]=>cases h
  |c::r=>
   rw[Le]at h;simp only[uQ]at hl⊢;by_cases h1:c=34
   ·rw[uC h1]at h;cases h;simp only;omega
   rw[uB h1]at h;by_cases h2:c<32\/126<c
   ·rw[uC h2]at h;cases h
   rw[uB h2]at h;by_cases h3:c=92
   ·rw[uC h3]at h
    match r with
    |[]=>cases h
    |d::r'=>
     cases he:Gl d with
     |none=>simp[he]at h
     |some e=>
      simp only[he]at h;simp only[uQ]at hl⊢;have:=ih r' _ _ x (by omega) h;simp only[uE,uQ,List.length_nil]at this;omega
   ·rw[uB h3]at h
    have:=ih r _ _ x (by omega) h;simp only[uE,uQ,List.length_nil]at this;omega
theorem iB(l:List UInt8)(x:Tk×Nat)(hl:l.length<=4000)(h:Br l=some x):KU x.1:=by
 have hs:=Oz l x h;unfold Br at h;split at h
 ·cases h
 ·rename_i c r
  by_cases h1:Ar Dw c=true
  ·rw[uC h1]at h;cases h
   have hz:(Az ((c::r).take (Av (c::r) AN))).size=Av (c::r) AN:=by
    show((c::r).take (Av (c::r) AN)).toArray.size=_;rw[List.size_toArray,List.length_take];have:=Kf (c::r) AN;omega
   have:=hs.1;have:=hs.2;simp only at*;exact⟨tL 1,show 1<=17 by decide,by rw[hz];omega,fun _=>by rw[hz];omega⟩
  rw[uB h1]at h;by_cases h2:Ar Gi c=true
  ·rw[uC h2]at h
   cases hn:BK (c::r)with
   |none=>simp[hn]at h
   |some y=>simp only[hn,Option.map_some,Option.some.injEq]at h;subst h;exact⟨show 1<=2 by decide,show 2<=17 by decide,show(⟨#[]⟩:vD).size<=4000 by decide,fun e=>by cases e⟩
  rw[uB h2]at h;by_cases h3:c=34
  ·rw[uC h3]at h
   cases hn:Cp r [] 1 with
   |none=>simp[hn]at h
   |some y=>
    simp only[hn,Option.map_some,Option.some.injEq]at h;subst h;have:=rK _ _ _ _ _ (tL _) hn;simp only[uQ,List.length_nil]at this hl;refine⟨by simp,by simp,?_,fun e=>by cases e⟩;show y.1.toArray.size<=4000;rw[List.size_toArray];omega
  rw[uB h3]at h;by_cases h4:(c::r).take 3=[46,46,46]
  ·rw[uC h4]at h;cases h;exact⟨by decide,by decide,by decide,fun e=>by cases e⟩
  rw[uB h4]at h;cases hn:GT Dp.data.toList c 5 with
  |none=>simp[hn]at h
  |some i=>
   simp only[hn,Option.map_some,Option.some.injEq]at h;subst h;cases hsg:Ar Dp c with
   |false=>rw[rH c hsg]at hn;cases hn
   |true=>
    obtain⟨j,e1,e2,e3,_⟩:=rI c hsg;rw[e1]at hn;cases hn;exact⟨by simp only;omega,e3,show(⟨#[]⟩:vD).size<=4000 by decide,fun e=>by simp only at e;omega⟩
theorem iI:∀(f:Nat) (l:List UInt8) (ts:List Tk),l.length<=4000->Fs f l=some ts->∀t∈ts,KU t:=by
 intro f
 induction f with
 |zero=>intro l ts _ h;cases h
 |succ f ih=>
  intro l ts hl h
  match l with
  |[]=>cases h;intro t ht;cases ht
  |c::r=>
   simp only[Fs]at h;simp only[uQ]at hl;by_cases h1:Ar Hh c=true
   ·rw[uC h1]at h;exact ih r ts (by omega) h
   rw[uB h1]at h;by_cases h2:c=35
   ·rw[uC h2]at h
    have:=Of (· !=10) r;exact ih _ ts (by omega) h
   rw[uB h2]at h;cases hx:Br (c::r)with
   |none=>rw[hx]at h;cases h
   |some x=>
    rw[hx]at h;simp only at h;cases hy:Fs f ((c::r).drop x.2)with
    |none=>rw[hy]at h;cases h
    |some ts'=>
     rw[hy]at h;simp only[Option.map_some,Option.some.injEq]at h;subst h;intro t ht;rcases vB.1 ht with e|e
     ·rw[e];exact iB _ _ (by simpa using hl) hx
     ·exact ih _ ts' (by simp;omega) hy t e
theorem MO(s:vD)(ts:List Tk)(h:Af s=some ts):(∀t∈ts,KU t)/\ts.length<=800:=by
 unfold Af at h;by_cases h0:4000<s.size
 ·rw[uC h0]at h;cases h
 rw[uB h0]at h;cases hx:Bb s.data.toList with
 |none=>rw[hx]at h;cases h
 |some l=>
  rw[hx]at h;simp only at h;by_cases h1:l.length<=800
  ·rw[uC h1]at h;cases h
   exact⟨iI _ _ _ (by show s.size<=4000;omega) hx,h1⟩
  ·rw[uB h1]at h;cases h
theorem RA{w x:World}{base n size:Nat}{e:TypeId}{v:Value}{xs:List Value}(h:w.ownsRow base e size v n xs)(hf:∀k,v.ownBlock=some k->x.heap[k]?=w.heap[k]?):x.ownsRow base e size v n xs:=by
 refine⟨h.1,?_⟩;rcases h.2 with q|⟨g,cap,cur,hv,hg,hh,r⟩
 ·exact Or.inl q
 ·exact Or.inr ⟨g,cap,cur,hv,hg,(hf g (by rw[hv];rfl)).trans hh,r⟩
theorem Fw{w:World}{B C size n:Nat}{e:TypeId}{v:Value}{xs:List Value}(h:w.ownsRow B e size v n xs)(hc:C<=B):w.ownsRow C e size v n xs:=by
 refine⟨h.1,?_⟩;rcases h.2 with h|⟨g,cap,cur,h1,h2,h3⟩
 ·exact Or.inl h
 ·exact Or.inr ⟨g,cap,cur,h1,tQ hc h2,h3⟩
theorem Di{X:World}{B0 size n N:Nat}{e:TypeId}{v:Value}{xs:List Value}(h:X.ownsRow B0 e size v n xs)(hN:v.ownBlock≠some N)(i:Nat)(u:Value):(X.setCell ⟨N,i,none⟩ u).ownsRow B0 e size v n xs:=by
 refine⟨h.1,?_⟩;rcases h.2 with h|⟨g,cap,cur,h1,h2,h3,h4⟩
 ·exact Or.inl h
 ·exact Or.inr ⟨g,cap,cur,h1,h2,(tX _ _ _ _ (fun e=>hN (by have e':g=N:=e;rw[h1,<-e'];rfl))).trans h3,h4⟩
end Go.Proofs.YtadneapobijejaaGreatDoor
