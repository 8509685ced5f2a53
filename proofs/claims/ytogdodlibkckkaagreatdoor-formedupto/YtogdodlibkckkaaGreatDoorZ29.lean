import Derived.Test.YtogdodlibkckkaaGreatDoorZ28
namespace Go.Proofs.YtogdodlibkckkaaGreatDoor
set_option maxHeartbeats 20000000
set_option maxRecDepth 100000
open Go.RowKit Tryz
structure Fg(w:World)(B0:Nat)(pp:List Nat)(g o:Nat)(x:As):Prop where
 ex:∃aA cA aC cC,(∀c u,(sL pp (x,.slice aA x.args.length cA,.slice aC x.conds.length cC))[c]?=some u->w.cell? ⟨g,o+c,none⟩=some u)/\DF w B0 pp.length (x,.slice aA x.args.length cA,.slice aC x.conds.length cC)
theorem Fg.below{w a:World}{B0 g o:Nat}{pp:List Nat}{x:As}(h:Fg w B0 pp g o x)(hb:yG w a):Fg a B0 pp g o x:=by
 obtain⟨b,e,d,f,i,j⟩:=h.ex;exact⟨b,e,d,f,fun c u k=>Ah hb (i c u k),j.typ (AA.below hb) (wQ _)⟩
theorem CQ.selAt{b:World}{B0 i k:Nat}{pp:List Nat}{P:Ai}(n:CQ b B0 pp i P)(w:pp[i]?=some k):∃a cap,b.heap[k]?=some (.cells #[.string P.typ,.int .i64 i,.slice a P.sels.length cap] 223 (0,0))/\P.sels.length<=1000/\∀t x,P.sels[t]?=some x->∃g,a=some ⟨g,0,none⟩/\g<b.heap.size/\Fg b B0 pp g (t*6) x:=by
 obtain⟨a,cap,p,q,r⟩:=n.rd w;refine⟨a,cap,p,q,fun t x y=>?_⟩;obtain⟨g,A,B,s,u,d,z,v⟩:=r t x y;obtain⟨h,l,e⟩:=An d.a;obtain⟨j,m,f⟩:=An d.c;simp only[]at e f;subst e f;exact⟨g,s,Ab v,h,l,j,m,u,d⟩
theorem LH.below{w a:World}{S:Nat}{q:Option Addr}{o:Option Am}(b:LH w S q o)(hb:yG w a):LH a S q o:=by
 cases o with
 |none=>exact b
 |some f=>
  obtain⟨g,h,u,e,c,d⟩:=b;exact⟨g,h,u,e,c.below hb,Bx.stays (Ap.of_below hb) d⟩
def fP(roles:List yF)(rec:EI)(x:As)(seen:List Bool):Option Am->Bool×List Bool
 |none=>(false,seen)
 |some f=>if DW roles f.hide_=true then(if Is f x.args=true then DJ rec f x.part seen else(false,seen))else(false,seen)
section
variable {w:World} {S:Nat} {vR vO vI vU vN:Value} {LR:List (Au×Value)} {LO:List AX} {LI:List (At×Value)} {LU:List (Aw×Value)} {names:List yF}
theorem fT(A:SV w S vR vO vI vU vN LR LO LI LU names){V C Sb g o B0:Nat}{id:yF}{roles:List yF}{pp:List Nat}{x:As}{v3:Value}{seen:List Bool}{rec:EI}{typ:yF}(Z:DV w V id roles)(T:w.heap[C]?=some (.cells #[.pointer (some ⟨S,0,none⟩),.pointer (some ⟨V,0,none⟩),v3] 189 (0,0)))(aW:Fg w B0 pp g o x)(aC:w.heap[Sb]?=some (.cells (Bw seen).toArray 4 (0,0)))
 (aU:∀W,yG w W->∀p k aQ,x.part=some p->pp[p]?=some k->KH W C Sb (.pointer (some ⟨k,0,none⟩)) aQ (rec p aQ seen)):
 Calls prog 157 #[.pointer (some ⟨C,0,none⟩),.pointer (some ⟨g,o,none⟩),.string typ] w fun e w'=>e=.returned (.bool (Ix ⟨LO.map Prod.fst,LI.map Prod.fst,LU.map Prod.fst,roles⟩ rec x typ seen).1)/\w'.heap[Sb]?=some (.cells (Bw (Ix ⟨LO.map Prod.fst,LI.map Prod.fst,LU.map Prod.fst,roles⟩ rec x typ seen).2).toArray 4 (0,0))/\Ag Sb w w':=by
 obtain⟨a6,a8,bj,bk,B,ar⟩:=aW.ex;have aZ:w.cell? ⟨g,o+2,none⟩=some (.string x.name):=B 2 _ rfl;have ag:w.cell? ⟨g,o+3,none⟩=some (.slice a6 x.args.length a8):=B 3 _ rfl;have G:=Aa (show w.cell? ⟨g,o+5,none⟩=some (AO pp x.part)from B 5 _ rfl);have aY:=wW w _ aZ;have aO:w.cell? ⟨C,0,none⟩=some (.pointer (some ⟨S,0,none⟩)):=Ac T 0;have aP:w.cell? ⟨C,1,none⟩=some (.pointer (some ⟨V,0,none⟩)):=Ac T 1;have bp:=Ab T;have aa:=Ab aC;have z:=Aa aC;have J:=ar.p;have aA:=ar.al;have F:=Aa ar.a;have y:=Aa (Ix.eq_1 ⟨LO.map Prod.fst,LI.map Prod.fst,LU.map Prod.fst,roles⟩ rec x typ seen);generalize Ix ⟨LO.map Prod.fst,LI.map Prod.fst,LU.map Prod.fst,roles⟩ rec x typ seen=d at*;simp only[]at y J aA F;have ad:(x.name=Gu)↔(x.name.toList==[95,95,116,121,112,101,110,97,109,101])=true:=by
  rw[show(x.name.toList==[95,95,116,121,112,101,110,97,109,101])=decide (x.name=Gu)from by rw[<-Cy,Lib.toList_data Gu];rfl];exact decide_eq_true_iff.symm
 have L:(x.name.toList==[95,95,116,121,112,101,110,97,109,101])=false->¬x.name=Gu:=fun A e=>by have:=ad.1 e;rw[A]at this;cases this
 have ae:(x.name=Gv)↔(x.name.toList==[95,95,116,121,112,101,115])=true:=by
  rw[show(x.name.toList==[95,95,116,121,112,101,115])=decide (x.name=Gv)from by rw[<-Cy,Lib.toList_data Gv];rfl];exact decide_eq_true_iff.symm
 have P:(x.name.toList==[95,95,116,121,112,101,115])=false->¬x.name=Gv:=fun A e=>by have:=ae.1 e;rw[A]at this;cases this
 have af:(x.name=FZ)↔(x.name.toList==[95,95,102,105,101,108,100,115])=true:=by
  rw[show(x.name.toList==[95,95,102,105,101,108,100,115])=decide (x.name=FZ)from by rw[<-Cy,Lib.toList_data FZ];rfl];exact decide_eq_true_iff.symm
 have ab:(x.name.toList==[95,95,102,105,101,108,100,115])=false->¬x.name=FZ:=fun A e=>by have:=af.1 e;rw[A]at this;cases this
 have Q:(typ=bQ)↔(typ.toList==[81,117,101,114,121])=true:=by
  rw[show(typ.toList==[81,117,101,114,121])=decide (typ=bQ)from by rw[<-Cy,Lib.toList_data bQ];rfl];exact decide_eq_true_iff.symm
 have n4:(typ.toList==[81,117,101,114,121])=false->¬typ=bQ:=fun A e=>by have:=Q.1 e;rw[A]at this;cases this
 have a2:=Aa (xZ ad (xZ ae (xZ af (xZ Q (xZ L (xZ P (xZ ab n4)))))));clear ad ae af Q L P ab n4;have ai:=Aa (fun W (az:yG w W)=>tN (A.below az) typ x.name);have ax:=Aa (fun W (az:yG w W)=>Z.below az);have aw:=Aa aU;have bm:=Aa T;clear A Z T aW aC aU B ar;generalize Iy (LO.map Prod.fst) (LI.map Prod.fst) typ x.name=N at*;have aE:∀(hF:d=(x.args.isEmpty&&x.part.isNone,seen)),((x.name.toList==[95,95,116,121,112,101,110,97,109,101])=true\/((x.name.toList==[95,95,116,121,112,101,110,97,109,101])=false/\(x.name.toList==[95,95,116,121,112,101,115])=true/\(typ.toList==[81,117,101,114,121])=true))->Calls prog 157 #[.pointer (some ⟨C,0,none⟩),.pointer (some ⟨g,o,none⟩),.string typ] w fun e w'=>e=.returned (.bool d.1)/\w'.heap[Sb]?=some (.cells (Bw d.2).toArray 4 (0,0))/\Ag Sb w w':=by
  intro hF ap;have h:=Aa hF;have aN:((x.args.length:Int)==0)=x.args.isEmpty:=by
   cases x.args with
   |nil=>rfl
   |cons a l=>simp;omega
  clear hF y ai ax aw F aA;cases D:x.part with
  |none=>
   have M:w.cell? ⟨g,o+5,none⟩=some (.pointer none):=by have:=G.o;rw[D]at this;exact this
   rw[D]at h;cases U:x.args.isEmpty<;>rw[U]at aN h<;>rcases ap with i|⟨i,j,s⟩<;>clear D U G J<;>
   ·go_enter func157,ntmps157
    go_wp2;go_ret;rw[h.o];exact⟨rfl,z.o,Ag.refl _ _⟩
  |some p=>
   obtain⟨K,aq⟩:∃K,pp[p]?=some K:=⟨_,wS (J p D)⟩;have M:w.cell? ⟨g,o+5,none⟩=some (.pointer (some ⟨K,0,none⟩)):=by have:=G.o;rw[D]at this;rw[this];simp[AO,aq]
   rw[D]at h;cases U:x.args.isEmpty<;>rw[U]at aN h<;>rcases ap with i|⟨i,j,s⟩<;>clear D U G J aq<;>
   ·go_enter func157,ntmps157
    go_wp2;go_ret;rw[h.o];exact⟨rfl,z.o,Ag.refl _ _⟩
 have au:∀(hF:d=fP roles rec x seen N),(x.name.toList==[95,95,116,121,112,101,110,97,109,101])=false->(((x.name.toList==[95,95,116,121,112,101,115])=false/\(x.name.toList==[95,95,102,105,101,108,100,115])=false)\/((x.name.toList==[95,95,116,121,112,101,115])=true/\(typ.toList==[81,117,101,114,121])=false/\(x.name.toList==[95,95,102,105,101,108,100,115])=false)\/((x.name.toList==[95,95,116,121,112,101,115])=false/\(x.name.toList==[95,95,102,105,101,108,100,115])=true/\(typ.toList==[81,117,101,114,121])=false))->Calls prog 157 #[.pointer (some ⟨C,0,none⟩),.pointer (some ⟨g,o,none⟩),.string typ] w fun e w'=>e=.returned (.bool d.1)/\w'.heap[Sb]?=some (.cells (Bw d.2).toArray 4 (0,0))/\Ag Sb w w':=by
  intro hF i ap;have h:=Aa hF;obtain⟨E,O⟩:∃E,AO pp x.part=.pointer E:=by
   cases x.part with
   |none=>exact⟨none,rfl⟩
   |some p=>exact⟨_,rfl⟩
  have a3:=Aa O;have M:w.cell? ⟨g,o+5,none⟩=some (.pointer E):=by have:=G.o;rw[O]at this;exact this
  clear hF y O G;rcases ap with⟨j,c⟩|⟨j,s,c⟩|⟨j,c,s⟩;all_goals(
   go_enter func157,ntmps157;go_wp2;go_cut [7] (fun v7 wc=>∃q,v7=.pointer q/\yG w wc/\LH wc S q N)
   case first=>
    go_region_with (go_at_call 208;refine(ai.o _ ?_).mono ?_;(first|exact(wR _ _).drew|exact wR _ _);rintro _ w1 ⟨q,rfl,aj,Y⟩);all_goals(
     have a0:=Aa (show yG w w1 from(by first|exact aj|exact(wR w.heap.size w).drew.trans aj));have a4:=Aa (Y.below aj);clear aj Y;go_wp2;go_meet;exact⟨q,rfl,a0.o,a4.o⟩)
   case rest=>
   obtain⟨q,rfl,hb,Y⟩:=hcut;have ah:=Aa hb;have bg:=Ah hb ag;have aF:=Ah hb M;have a9:=Ah hb aO;have ba:=Ah hb aP;have aL:=Aa ((hb.block _ aa).trans z.o);clear aZ ag M aO aP i j c;cases N with
   |none=>
    have e:q=none:=Y;subst e;have m:=Aa (show d=(false,seen)from h.o);go_wp2;go_ret;rw[m.o];exact⟨rfl,aL.o,Ag.of_below ah.o⟩
   |some f=>
    obtain⟨bl,bt,u,e,X,aV⟩:=Y;subst e;have av:=Aa (Zk (ax.o wc hb) X);have aH:=Aa (aK X (AT F.o hb) aA);have a1:=Aa X;have a5:=Aa aV;have bs:=wW wc _ X.c0;have m:=Aa (show d=if DW roles f.hide_=true then(if Is f x.args=true then DJ rec f x.part seen else(false,seen))else(false,seen)from h.o);generalize DW roles f.hide_=bf at*;generalize Is f x.args=a7 at*;clear X aV h ai hb;cases bf
    ·have v:=Aa (show d=(false,seen)from m.o)
     go_wp2_with fail;refine av.o.mono ?_;rintro _ w2 ⟨rfl,t⟩;have t:=t.symm;subst t;go_wp2;go_ret;rw[v.o];exact⟨rfl,aL.o,Ag.of_below ah.o⟩
    ·cases a7
     ·have v:=Aa (show d=(false,seen)from m.o)
      go_wp2_with fail;refine av.o.mono ?_;rintro _ w2 ⟨rfl,t⟩;have t:=t.symm;subst t;go_wp2_with fail;refine aH.o.mono ?_;rintro _ w3 ⟨rfl,c⟩;have H:=Aa (bT ah.o c);clear c;go_wp2;go_ret;rw[v.o];exact⟨rfl,(H.o.block _ aa).trans z.o,Ag.of_below H.o⟩
     ·have v:=Aa (show d=DJ rec f x.part seen from m.o)
      go_wp2_with fail;refine av.o.mono ?_;rintro _ w2 ⟨rfl,t⟩;have t:=t.symm;subst t;go_wp2_with fail;refine aH.o.mono ?_;rintro _ w3 ⟨rfl,c⟩;have H:=Aa (bT ah.o c);have bv:=Ah c aF;have aJ:=Aa (jQ (C:=C) (pp:=pp) (part:=x.part) (rec:=rec) (a1.o.below c) (Bx.stays (Ap.of_below c) a5.o) ((H.o.block _ aa).trans z.o) J (fun p k ak bb=>aw.o w3 H.o p k _ ak bb));rw[a3.o]at aJ;have br:=xA aY H.o.size;clear c aF bg a9 ba;go_wp2_with fail;refine aJ.o.mono ?_;rintro _ w4 ⟨rfl,ay,aX⟩;rw[<-v.o]at ay⊢;have aG:=Aa ay;have aM:=Aa ((Ag.of_below H.o).trans aX);clear ay aX;go_wp2;go_ret;first|exact⟨rfl,aG.o,aM.o⟩|exact⟨Al (by simp),aG.o,aM.o⟩)
 have bd:∀(hF:d=(Rr x.args&&x.part.isNone,seen)),(x.name.toList==[95,95,116,121,112,101,110,97,109,101])=false->(x.name.toList==[95,95,116,121,112,101,115])=false->(x.name.toList==[95,95,102,105,101,108,100,115])=true->(typ.toList==[81,117,101,114,121])=true->Calls prog 157 #[.pointer (some ⟨C,0,none⟩),.pointer (some ⟨g,o,none⟩),.string typ] w fun e w'=>e=.returned (.bool d.1)/\w'.heap[Sb]?=some (.cells (Bw d.2).toArray 4 (0,0))/\Ag Sb w w':=by
  intro hF i j c s;have h:=Aa hF;clear hF y ai ax aw aE au;obtain⟨E,O,aB⟩:∃E,AO pp x.part=.pointer E/\((E=none/\x.part.isNone=true)\/(∃a,E=some a)/\x.part.isNone=false):=by
   cases D:x.part with
   |none=>exact⟨none,rfl,.inl ⟨rfl,rfl⟩⟩
   |some p=>
    obtain⟨K,aq⟩:∃K,pp[p]?=some K:=⟨_,wS (J p D)⟩;exact⟨some ⟨K,0,none⟩,by simp[AO,aq],.inr ⟨⟨_,rfl⟩,rfl⟩⟩
  have M:w.cell? ⟨g,o+5,none⟩=some (.pointer E):=by have:=G.o;rw[O]at this;exact this
  clear G J O;generalize x.part.isNone=aD at*
  match ao:x.args with
  |[]=>
   rw[ao]at h ag;have m:=Aa (show d=(false,seen)from h.o);clear F aB;go_enter func157,ntmps157;go_wp2;go_ret;rw[m.o];exact⟨rfl,z.o,Ag.refl _ _⟩
  |a::b::r=>
   rw[ao]at h ag;have m:=Aa (show d=(false,seen)from h.o);have bn:2<=(a::b::r).length:=by simp
   generalize (a::b::r).length=n at*;have bi:((n:Int)==1)=false:=by simp;omega
   clear F aB;go_enter func157,ntmps157;go_wp2;go_ret;rw[m.o];exact⟨rfl,z.o,Ag.refl _ _⟩
  |[a]=>
   rw[ao]at h ag F;obtain⟨am,cap,Z,B⟩:=Cw F.o (fun _=>rfl) 0 a rfl;have bc:=(Value.slice.inj Z).1;subst bc;have bh:w.cell? ⟨am,0,none⟩=some (.string a.1):=by simpa using B 0 _ rfl
   have bw:w.cell? ⟨am,1,none⟩=some (.int .i64 a.2.1):=by simpa using B 1 _ rfl
   have bx:w.cell? ⟨am,2,none⟩=some (.int .i64 a.2.2.1):=by simpa using B 2 _ rfl
   have bz:w.cell? ⟨am,3,none⟩=some (.string a.2.2.2):=by simpa using B 3 _ rfl
   have bo:=wW w _ bh;have m:=Aa (show d=(((a.1.toList==[116,121,112,101])&&Dy a.2 Nf true)&&aD,seen)from by
    rw[h.o];show((decide (a.1=QW)&&Dy a.2 Nf true)&&aD,seen)=_;rw[<-Cy,Lib.toList_data QW];rfl)
   have aI:=Aa (fun W=>Nt W a.2 Nf true);generalize Dy a.2 Nf true=aT at*;clear F B Z h ao;cases ak:(a.1.toList==[116,121,112,101])
   ·have v:=Aa (show d=(false,seen)from by rw[m.o,ak];rfl)
    clear m;go_enter func157,ntmps157;go_wp2;go_ret;rw[v.o];exact⟨rfl,z.o,Ag.refl _ _⟩
   ·have v:=Aa (show d=(aT&&aD,seen)from by rw[m.o,ak];rfl)
    clear m;cases aT
    ·go_enter func157,ntmps157
     go_wp2_with fail;refine(aI.o _).mono ?_;rintro _ w1 ⟨rfl,I⟩;have R:=Aa I;clear I;go_wp2;go_ret;rw[v.o];exact⟨rfl,(R.o.block _ aa).trans z.o,Ag.of_below R.o⟩
    ·rcases aB with⟨aR,aS⟩|⟨⟨bu,aR⟩,aS⟩
     all_goals(
      subst aR aS;go_enter func157,ntmps157;go_wp2_with fail;refine(aI.o _).mono ?_;rintro _ w1 ⟨rfl,I⟩;have R:=Aa I;have aF:=Ah I M;have bq:=xA aY I.size;clear I M;go_wp2;go_ret;rw[v.o];exact⟨rfl,(R.o.block _ aa).trans z.o,Ag.of_below R.o⟩)
 obtain⟨ad,ae,af,Q,L,P,ab,n4⟩:=a2.o;cases i:(x.name.toList==[95,95,116,121,112,101,110,97,109,101])
 ·cases j:(x.name.toList==[95,95,116,121,112,101,115])
  ·cases c:(x.name.toList==[95,95,102,105,101,108,100,115])
   ·exact au (by rw[y.o,xG (fun e=>e.elim (L i) (fun e=>P j e.1)),xG (fun e=>ab c e.1)];cases N<;>rfl) i (.inl ⟨j,c⟩)
   ·cases s:(typ.toList==[81,117,101,114,121])
    ·exact au (by rw[y.o,xG (fun e=>e.elim (L i) (fun e=>P j e.1)),xG (fun e=>n4 s e.2)];cases N<;>rfl) i (.inr (.inr ⟨j,c,s⟩))
    ·exact bd (by rw[y.o,xG (fun e=>e.elim (L i) (fun e=>P j e.1)),xH ⟨af.2 c,Q.2 s⟩]) i j c s
  ·have c:(x.name.toList==[95,95,102,105,101,108,100,115])=false:=by rw[eq_of_beq j];rfl
   cases s:(typ.toList==[81,117,101,114,121])
   ·exact au (by rw[y.o,xG (fun e=>e.elim (L i) (fun e=>n4 s e.2)),xG (fun e=>ab c e.1)];cases N<;>rfl) i (.inr (.inl ⟨j,s,c⟩))
   ·exact aE (by rw[y.o,xH (.inr ⟨ae.2 j,Q.2 s⟩)]) (.inr ⟨i,j,s⟩)
 ·exact aE (by rw[y.o,xH (.inl (ad.2 i))]) (.inl i)
end
end Go.Proofs.YtogdodlibkckkaaGreatDoor
