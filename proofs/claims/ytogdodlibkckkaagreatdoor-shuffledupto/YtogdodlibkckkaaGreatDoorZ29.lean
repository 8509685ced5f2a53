import Derived.Test.YtogdodlibkckkaaGreatDoorZ28
namespace Go.Proofs.YtogdodlibkckkaaGreatDoor
set_option maxHeartbeats 20000000
set_option maxRecDepth 100000
open Go.RowKit Tryz
structure Fg(w:World)(B0:Nat)(pp:List Nat)(g o:Nat)(x:As):Prop where
 ex:∃aA cA aC cC,(∀c u,(sL pp (x,.slice aA x.args.length cA,.slice aC x.conds.length cC))[c]?=some u->w.cell? ⟨g,o+c,none⟩=some u)/\DF w B0 pp.length (x,.slice aA x.args.length cA,.slice aC x.conds.length cC)
theorem Fg.below{w a:World}{B0 g o:Nat}{pp:List Nat}{x:As}(h:Fg w B0 pp g o x)(hb:yG w a):Fg a B0 pp g o x:=by
 obtain⟨b,e,d,f,i,j⟩:=h.ex;exact⟨b,e,d,f,fun c u k=>Ah hb (i c u k),j.typ (AA.below hb) (wQ _)⟩
theorem CQ.selAt{b:World}{B0 i k:Nat}{pp:List Nat}{P:Ai}(n:CQ b B0 pp i P)(w:pp[i]?=some k):∃a cap,b.heap[k]?=some (.cells #[.string P.typ,.int .i64 i,.slice a P.sels.length cap] 223 (0,0))/\P.sels.length<=1000/\∀t x,P.sels[t]?=some x->∃g,a=some ⟨g,0,none⟩/\g<b.heap.size/\Fg b B0 pp g (t*6) x:=by
 obtain⟨a,cap,p,q,r⟩:=n.rd w;refine⟨a,cap,p,q,fun t x y=>?_⟩;obtain⟨g,A,B,s,u,d,z,v⟩:=r t x y;obtain⟨h,l,e⟩:=An d.a;obtain⟨j,m,f⟩:=An d.c;simp only[]at e f;subst e f;exact⟨g,s,Ab v,h,l,j,m,u,d⟩
theorem LH.below{w a:World}{S:Nat}{q:Option Addr}{o:Option Am}(b:LH w S q o)(hb:yG w a):LH a S q o:=by
 cases o with
 |none=>exact b
 |some f=>
  obtain⟨g,h,u,e,c,d⟩:=b;exact⟨g,h,u,e,c.below hb,Bx.stays (Ap.of_below hb) d⟩
def fP(roles:List yF)(rec:EI)(x:As)(seen:List Bool):Option Am->Bool×List Bool
 |none=>(false,seen)
 |some f=>if DW roles f.hide_=true then(if Is f x.args=true then DJ rec f x.part seen else(false,seen))else(false,seen)
section
variable {w:World} {S:Nat} {vR vO vI vU vN:Value} {LR:List (Au×Value)} {LO:List AX} {LI:List (At×Value)} {LU:List (Aw×Value)} {names:List yF}
theorem fT(A:SV w S vR vO vI vU vN LR LO LI LU names){V C Sb g o B0:Nat}{id:yF}{roles:List yF}{pp:List Nat}{x:As}{v3:Value}{seen:List Bool}{rec:EI}{typ:yF}(Z:DV w V id roles)(T:w.heap[C]?=some (.cells #[.pointer (some ⟨S,0,none⟩),.pointer (some ⟨V,0,none⟩),v3] 189 (0,0)))(aV:Fg w B0 pp g o x)(hs:w.heap[Sb]?=some (.cells (Bw seen).toArray 4 (0,0)))
 (aT:∀W,yG w W->∀p k aP,x.part=some p->pp[p]?=some k->KH W C Sb (.pointer (some ⟨k,0,none⟩)) aP (rec p aP seen)):
 Calls prog 157 #[.pointer (some ⟨C,0,none⟩),.pointer (some ⟨g,o,none⟩),.string typ] w fun e w'=>e=.returned (.bool (Ix ⟨LO.map Prod.fst,LI.map Prod.fst,LU.map Prod.fst,roles⟩ rec x typ seen).1)/\w'.heap[Sb]?=some (.cells (Bw (Ix ⟨LO.map Prod.fst,LI.map Prod.fst,LU.map Prod.fst,roles⟩ rec x typ seen).2).toArray 4 (0,0))/\Ag Sb w w':=by
 obtain⟨a5,a7,bi,bj,B,ar⟩:=aV.ex;have aY:w.cell? ⟨g,o+2,none⟩=some (.string x.name):=B 2 _ rfl;have ag:w.cell? ⟨g,o+3,none⟩=some (.slice a5 x.args.length a7):=B 3 _ rfl;have G:=Aa (show w.cell? ⟨g,o+5,none⟩=some (AO pp x.part)from B 5 _ rfl);have aX:=wW w _ aY;have aN:w.cell? ⟨C,0,none⟩=some (.pointer (some ⟨S,0,none⟩)):=Ac T 0;have aO:w.cell? ⟨C,1,none⟩=some (.pointer (some ⟨V,0,none⟩)):=Ac T 1;have bo:=Ab T;have aa:=Ab hs;have z:=Aa hs;have J:=ar.p;have aA:=ar.al;have F:=Aa ar.a;have y:=Aa (Ix.eq_1 ⟨LO.map Prod.fst,LI.map Prod.fst,LU.map Prod.fst,roles⟩ rec x typ seen);generalize Ix ⟨LO.map Prod.fst,LI.map Prod.fst,LU.map Prod.fst,roles⟩ rec x typ seen=d at*;simp only[]at y J aA F;have ad:(x.name=Gu)↔(x.name.toList==[95,95,116,121,112,101,110,97,109,101])=true:=by
  rw[show(x.name.toList==[95,95,116,121,112,101,110,97,109,101])=decide (x.name=Gu)from by rw[<-Cy,Lib.toList_data Gu];rfl];exact decide_eq_true_iff.symm
 have L:(x.name.toList==[95,95,116,121,112,101,110,97,109,101])=false->¬x.name=Gu:=fun A e=>by have:=ad.1 e;rw[A]at this;cases this
 have ae:(x.name=Gv)↔(x.name.toList==[95,95,116,121,112,101,115])=true:=by
  rw[show(x.name.toList==[95,95,116,121,112,101,115])=decide (x.name=Gv)from by rw[<-Cy,Lib.toList_data Gv];rfl];exact decide_eq_true_iff.symm
 have P:(x.name.toList==[95,95,116,121,112,101,115])=false->¬x.name=Gv:=fun A e=>by have:=ae.1 e;rw[A]at this;cases this
 have af:(x.name=FZ)↔(x.name.toList==[95,95,102,105,101,108,100,115])=true:=by
  rw[show(x.name.toList==[95,95,102,105,101,108,100,115])=decide (x.name=FZ)from by rw[<-Cy,Lib.toList_data FZ];rfl];exact decide_eq_true_iff.symm
 have ab:(x.name.toList==[95,95,102,105,101,108,100,115])=false->¬x.name=FZ:=fun A e=>by have:=af.1 e;rw[A]at this;cases this
 have Q:(typ=bQ)↔(typ.toList==[81,117,101,114,121])=true:=by
  rw[show(typ.toList==[81,117,101,114,121])=decide (typ=bQ)from by rw[<-Cy,Lib.toList_data bQ];rfl];exact decide_eq_true_iff.symm
 have n4:(typ.toList==[81,117,101,114,121])=false->¬typ=bQ:=fun A e=>by have:=Q.1 e;rw[A]at this;cases this
 have a1:=Aa (xZ ad (xZ ae (xZ af (xZ Q (xZ L (xZ P (xZ ab n4)))))));clear ad ae af Q L P ab n4;have ai:=Aa (fun W (az:yG w W)=>tN (A.below az) typ x.name);have ax:=Aa (fun W (az:yG w W)=>Z.below az);have aw:=Aa aT;have bl:=Aa T;clear A Z T aV hs aT B ar;generalize Iy (LO.map Prod.fst) (LI.map Prod.fst) typ x.name=N at*;have aD:∀(hF:d=(x.args.isEmpty&&x.part.isNone,seen)),((x.name.toList==[95,95,116,121,112,101,110,97,109,101])=true\/((x.name.toList==[95,95,116,121,112,101,110,97,109,101])=false/\(x.name.toList==[95,95,116,121,112,101,115])=true/\(typ.toList==[81,117,101,114,121])=true))->Calls prog 157 #[.pointer (some ⟨C,0,none⟩),.pointer (some ⟨g,o,none⟩),.string typ] w fun e w'=>e=.returned (.bool d.1)/\w'.heap[Sb]?=some (.cells (Bw d.2).toArray 4 (0,0))/\Ag Sb w w':=by
  intro hF ap;have h:=Aa hF;have aM:((x.args.length:Int)==0)=x.args.isEmpty:=by
   cases x.args with
   |nil=>rfl
   |cons a l=>simp;omega
  clear hF y ai ax aw F aA;cases D:x.part with
  |none=>
   have M:w.cell? ⟨g,o+5,none⟩=some (.pointer none):=by have:=G.o;rw[D]at this;exact this
   rw[D]at h;cases U:x.args.isEmpty<;>rw[U]at aM h<;>rcases ap with i|⟨i,j,s⟩<;>clear D U G J<;>
   ·go_enter func157,ntmps157
    go_wp2;go_ret;rw[h.o];exact⟨rfl,z.o,Ag.refl _ _⟩
  |some p=>
   obtain⟨K,aq⟩:∃K,pp[p]?=some K:=⟨_,wS (J p D)⟩;have M:w.cell? ⟨g,o+5,none⟩=some (.pointer (some ⟨K,0,none⟩)):=by have:=G.o;rw[D]at this;rw[this];simp[AO,aq]
   rw[D]at h;cases U:x.args.isEmpty<;>rw[U]at aM h<;>rcases ap with i|⟨i,j,s⟩<;>clear D U G J aq<;>
   ·go_enter func157,ntmps157
    go_wp2;go_ret;rw[h.o];exact⟨rfl,z.o,Ag.refl _ _⟩
 have au:∀(hF:d=fP roles rec x seen N),(x.name.toList==[95,95,116,121,112,101,110,97,109,101])=false->(((x.name.toList==[95,95,116,121,112,101,115])=false/\(x.name.toList==[95,95,102,105,101,108,100,115])=false)\/((x.name.toList==[95,95,116,121,112,101,115])=true/\(typ.toList==[81,117,101,114,121])=false/\(x.name.toList==[95,95,102,105,101,108,100,115])=false)\/((x.name.toList==[95,95,116,121,112,101,115])=false/\(x.name.toList==[95,95,102,105,101,108,100,115])=true/\(typ.toList==[81,117,101,114,121])=false))->Calls prog 157 #[.pointer (some ⟨C,0,none⟩),.pointer (some ⟨g,o,none⟩),.string typ] w fun e w'=>e=.returned (.bool d.1)/\w'.heap[Sb]?=some (.cells (Bw d.2).toArray 4 (0,0))/\Ag Sb w w':=by
  intro hF i ap;have h:=Aa hF;obtain⟨E,O⟩:∃E,AO pp x.part=.pointer E:=by
   cases x.part with
   |none=>exact⟨none,rfl⟩
   |some p=>exact⟨_,rfl⟩
  have a2:=Aa O;have M:w.cell? ⟨g,o+5,none⟩=some (.pointer E):=by have:=G.o;rw[O]at this;exact this
  clear hF y O G;rcases ap with⟨j,c⟩|⟨j,s,c⟩|⟨j,c,s⟩;all_goals(
   go_enter func157,ntmps157;go_wp2;go_cut [7] (fun v7 wc=>∃q,v7=.pointer q/\yG w wc/\LH wc S q N)
   case first=>
    go_region_with (go_at_call 208;refine(ai.o _ ?_).mono ?_;(first|exact(wR _ _).drew|exact wR _ _);rintro _ w1 ⟨q,rfl,aj,Y⟩);all_goals(
     have aZ:=Aa (show yG w w1 from(by first|exact aj|exact(wR w.heap.size w).drew.trans aj));have a3:=Aa (Y.below aj);clear aj Y;go_wp2;go_meet;exact⟨q,rfl,aZ.o,a3.o⟩)
   case rest=>
   obtain⟨q,rfl,hb,Y⟩:=hcut;have ah:=Aa hb;have bf:=Ah hb ag;have aE:=Ah hb M;have a8:=Ah hb aN;have a9:=Ah hb aO;have aJ:=Aa ((hb.block _ aa).trans z.o);clear aY ag M aN aO i j c;cases N with
   |none=>
    have e:q=none:=Y;subst e;have m:=Aa (show d=(false,seen)from h.o);go_wp2;go_ret;rw[m.o];exact⟨rfl,aJ.o,Ag.of_below ah.o⟩
   |some f=>
    obtain⟨bk,bs,u,e,X,aU⟩:=Y;subst e;have av:=Aa (Zk (ax.o wc hb) X);have aG:=Aa (aK X (AT F.o hb) aA);have a0:=Aa X;have a4:=Aa aU;have br:=wW wc _ X.c0;have m:=Aa (show d=if DW roles f.hide_=true then(if Is f x.args=true then DJ rec f x.part seen else(false,seen))else(false,seen)from h.o);generalize DW roles f.hide_=bd at*;generalize Is f x.args=a6 at*;clear X aU h ai hb;cases bd
    ·have v:=Aa (show d=(false,seen)from m.o)
     go_wp2_with fail;refine av.o.mono ?_;rintro _ w2 ⟨rfl,t⟩;have t:=t.symm;subst t;go_wp2;go_ret;rw[v.o];exact⟨rfl,aJ.o,Ag.of_below ah.o⟩
    ·cases a6
     ·have v:=Aa (show d=(false,seen)from m.o)
      go_wp2_with fail;refine av.o.mono ?_;rintro _ w2 ⟨rfl,t⟩;have t:=t.symm;subst t;go_wp2_with fail;refine aG.o.mono ?_;rintro _ w3 ⟨rfl,c⟩;have H:=Aa (bT ah.o c);clear c;go_wp2;go_ret;rw[v.o];exact⟨rfl,(H.o.block _ aa).trans z.o,Ag.of_below H.o⟩
     ·have v:=Aa (show d=DJ rec f x.part seen from m.o)
      go_wp2_with fail;refine av.o.mono ?_;rintro _ w2 ⟨rfl,t⟩;have t:=t.symm;subst t;go_wp2_with fail;refine aG.o.mono ?_;rintro _ w3 ⟨rfl,c⟩;have H:=Aa (bT ah.o c);have bu:=Ah c aE;have aI:=Aa (jQ (C:=C) (pp:=pp) (part:=x.part) (rec:=rec) (a0.o.below c) (Bx.stays (Ap.of_below c) a4.o) ((H.o.block _ aa).trans z.o) J (fun p k ak ba=>aw.o w3 H.o p k _ ak ba));rw[a2.o]at aI;have bq:=xA aX H.o.size;clear c aE bf a8 a9;go_wp2_with fail;refine aI.o.mono ?_;rintro _ w4 ⟨rfl,ay,aW⟩;rw[<-v.o]at ay⊢;have aF:=Aa ay;have aL:=Aa ((Ag.of_below H.o).trans aW);clear ay aW;go_wp2;go_ret;first|exact⟨rfl,aF.o,aL.o⟩|exact⟨Al (by simp),aF.o,aL.o⟩)
 have bc:∀(hF:d=(Rr x.args&&x.part.isNone,seen)),(x.name.toList==[95,95,116,121,112,101,110,97,109,101])=false->(x.name.toList==[95,95,116,121,112,101,115])=false->(x.name.toList==[95,95,102,105,101,108,100,115])=true->(typ.toList==[81,117,101,114,121])=true->Calls prog 157 #[.pointer (some ⟨C,0,none⟩),.pointer (some ⟨g,o,none⟩),.string typ] w fun e w'=>e=.returned (.bool d.1)/\w'.heap[Sb]?=some (.cells (Bw d.2).toArray 4 (0,0))/\Ag Sb w w':=by
  intro hF i j c s;have h:=Aa hF;clear hF y ai ax aw aD au;obtain⟨E,O,aB⟩:∃E,AO pp x.part=.pointer E/\((E=none/\x.part.isNone=true)\/(∃a,E=some a)/\x.part.isNone=false):=by
   cases D:x.part with
   |none=>exact⟨none,rfl,.inl ⟨rfl,rfl⟩⟩
   |some p=>
    obtain⟨K,aq⟩:∃K,pp[p]?=some K:=⟨_,wS (J p D)⟩;exact⟨some ⟨K,0,none⟩,by simp[AO,aq],.inr ⟨⟨_,rfl⟩,rfl⟩⟩
  have M:w.cell? ⟨g,o+5,none⟩=some (.pointer E):=by have:=G.o;rw[O]at this;exact this
  clear G J O;generalize x.part.isNone=aC at*
  match ao:x.args with
  |[]=>
   rw[ao]at h ag;have m:=Aa (show d=(false,seen)from h.o);clear F aB;go_enter func157,ntmps157;go_wp2;go_ret;rw[m.o];exact⟨rfl,z.o,Ag.refl _ _⟩
  |a::b::r=>
   rw[ao]at h ag;have m:=Aa (show d=(false,seen)from h.o);have bm:2<=(a::b::r).length:=by simp
   generalize (a::b::r).length=n at*;have bh:((n:Int)==1)=false:=by simp;omega
   clear F aB;go_enter func157,ntmps157;go_wp2;go_ret;rw[m.o];exact⟨rfl,z.o,Ag.refl _ _⟩
  |[a]=>
   rw[ao]at h ag F;obtain⟨am,cap,Z,B⟩:=Cw F.o (fun _=>rfl) 0 a rfl;have bb:=(Value.slice.inj Z).1;subst bb;have bg:w.cell? ⟨am,0,none⟩=some (.string a.1):=by simpa using B 0 _ rfl
   have bv:w.cell? ⟨am,1,none⟩=some (.int .i64 a.2.1):=by simpa using B 1 _ rfl
   have bw:w.cell? ⟨am,2,none⟩=some (.int .i64 a.2.2.1):=by simpa using B 2 _ rfl
   have bx:w.cell? ⟨am,3,none⟩=some (.string a.2.2.2):=by simpa using B 3 _ rfl
   have bn:=wW w _ bg;have m:=Aa (show d=(((a.1.toList==[116,121,112,101])&&Dy a.2 Nf true)&&aC,seen)from by
    rw[h.o];show((decide (a.1=QW)&&Dy a.2 Nf true)&&aC,seen)=_;rw[<-Cy,Lib.toList_data QW];rfl)
   have aH:=Aa (fun W=>Nt W a.2 Nf true);generalize Dy a.2 Nf true=aS at*;clear F B Z h ao;cases ak:(a.1.toList==[116,121,112,101])
   ·have v:=Aa (show d=(false,seen)from by rw[m.o,ak];rfl)
    clear m;go_enter func157,ntmps157;go_wp2;go_ret;rw[v.o];exact⟨rfl,z.o,Ag.refl _ _⟩
   ·have v:=Aa (show d=(aS&&aC,seen)from by rw[m.o,ak];rfl)
    clear m;cases aS
    ·go_enter func157,ntmps157
     go_wp2_with fail;refine(aH.o _).mono ?_;rintro _ w1 ⟨rfl,I⟩;have R:=Aa I;clear I;go_wp2;go_ret;rw[v.o];exact⟨rfl,(R.o.block _ aa).trans z.o,Ag.of_below R.o⟩
    ·rcases aB with⟨aQ,aR⟩|⟨⟨bt,aQ⟩,aR⟩
     all_goals(
      subst aQ aR;go_enter func157,ntmps157;go_wp2_with fail;refine(aH.o _).mono ?_;rintro _ w1 ⟨rfl,I⟩;have R:=Aa I;have aE:=Ah I M;have bp:=xA aX I.size;clear I M;go_wp2;go_ret;rw[v.o];exact⟨rfl,(R.o.block _ aa).trans z.o,Ag.of_below R.o⟩)
 obtain⟨ad,ae,af,Q,L,P,ab,n4⟩:=a1.o;cases i:(x.name.toList==[95,95,116,121,112,101,110,97,109,101])
 ·cases j:(x.name.toList==[95,95,116,121,112,101,115])
  ·cases c:(x.name.toList==[95,95,102,105,101,108,100,115])
   ·exact au (by rw[y.o,xG (fun e=>e.elim (L i) (fun e=>P j e.1)),xG (fun e=>ab c e.1)];cases N<;>rfl) i (.inl ⟨j,c⟩)
   ·cases s:(typ.toList==[81,117,101,114,121])
    ·exact au (by rw[y.o,xG (fun e=>e.elim (L i) (fun e=>P j e.1)),xG (fun e=>n4 s e.2)];cases N<;>rfl) i (.inr (.inr ⟨j,c,s⟩))
    ·exact bc (by rw[y.o,xG (fun e=>e.elim (L i) (fun e=>P j e.1)),xH ⟨af.2 c,Q.2 s⟩]) i j c s
  ·have c:(x.name.toList==[95,95,102,105,101,108,100,115])=false:=by rw[eq_of_beq j];rfl
   cases s:(typ.toList==[81,117,101,114,121])
   ·exact au (by rw[y.o,xG (fun e=>e.elim (L i) (fun e=>n4 s e.2)),xG (fun e=>ab c e.1)];cases N<;>rfl) i (.inr (.inl ⟨j,s,c⟩))
   ·exact aD (by rw[y.o,xH (.inr ⟨ae.2 j,Q.2 s⟩)]) (.inr ⟨i,j,s⟩)
 ·exact aD (by rw[y.o,xH (.inl (ad.2 i))]) (.inl i)
end
end Go.Proofs.YtogdodlibkckkaaGreatDoor
