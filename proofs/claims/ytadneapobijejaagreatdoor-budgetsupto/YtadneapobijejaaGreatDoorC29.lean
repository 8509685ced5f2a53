import Derived.Test.YtadneapobijejaaGreatDoorC28
namespace Go.Proofs.YtadneapobijejaaGreatDoor
set_option maxHeartbeats 20000000
set_option maxRecDepth 100000
open Go.RowKit Tryz
structure ET(w:World)(B0:Nat)(pp:List Nat)(g o:Nat)(x:Aq):Prop where
 ex:∃aA cA aC cC,(∀c u,(sL pp (x,.slice aA x.args.length cA,.slice aC x.conds.length cC))[c]?=some u->w.cell? ⟨g,o+c,none⟩=some u)/\Dr w B0 pp.length (x,.slice aA x.args.length cA,.slice aC x.conds.length cC)
theorem ET.below{w X:World}{B0 g o:Nat}{pp:List Nat}{x:Aq}(h:ET w B0 pp g o x)(hb:vE w X):ET X B0 pp g o x:=by
 obtain⟨aA,cA,aC,cC,h1,h2⟩:=h.ex;exact⟨aA,cA,aC,cC,fun c u hu=>Ah hb (h1 c u hu),h2.typ (AA.below hb) (tL _)⟩
theorem CH.selAt{X:World}{B0 i k:Nat}{pp:List Nat}{P:Ai}(h:CH X B0 pp i P)(hk:pp[i]?=some k):∃a cap,X.heap[k]?=some (.cells #[.string P.typ,.int .i64 i,.slice a P.sels.length cap] 171 (0,0))/\P.sels.length<=1000/\∀t x,P.sels[t]?=some x->∃g,a=some ⟨g,0,none⟩/\g<X.heap.size/\ET X B0 pp g (t*6) x:=by
 obtain⟨a,cap,h1,h2,h3⟩:=h.rd hk;refine⟨a,cap,h1,h2,fun t x hx=>?_⟩;obtain⟨g,va,vc,ha,hc,hok,cur,hg⟩:=h3 t x hx;obtain⟨aA,cA,e1⟩:=An hok.a;obtain⟨aC,cC,e2⟩:=An hok.c;simp only[]at e1 e2;subst e1 e2;exact⟨g,ha,Ab hg,aA,cA,aC,cC,hc,hok⟩
theorem Ll.below{w X:World}{S:Nat}{q:Option Addr}{o:Option Al}(h:Ll w S q o)(hb:vE w X):Ll X S q o:=by
 cases o with
 |none=>exact h
 |some f=>
  obtain⟨g,off,u,e,h1,h2⟩:=h;exact⟨g,off,u,e,h1.below hb,Bu.stays (Ao.of_below hb) h2⟩
def cH(roles:List vD)(rec:Ey)(x:Aq)(seen:List Bool):Option Al->Bool×List Bool
 |none=>(false,seen)
 |some f=>if Dy roles f.hide_=true then(if Id f x.args=true then Du rec f x.part seen else(false,seen))else(false,seen)
section
variable {w:World} {S:Nat} {vR vO vI vU vN:Value} {LR:List (At×Value)} {LO:List AV} {LI:List (As×Value)} {LU:List (Au×Value)} {names:List vD}
theorem cX(h:SV w S vR vO vI vU vN LR LO LI LU names){V C Sb g o B0:Nat}{id:vD}{roles:List vD}{pp:List Nat}{x:Aq}{v3:Value}{seen:List Bool}{rec:Ey}{typ:vD}(hv:DM w V id roles)(hC:w.heap[C]?=some (.cells #[.pointer (some ⟨S,0,none⟩),.pointer (some ⟨V,0,none⟩),v3] 126 (0,0)))(hx:ET w B0 pp g o x)(hs:w.heap[Sb]?=some (.cells (Bp seen).toArray 4 (0,0)))
 (hrec:∀W,vE w W->∀p k ct,x.part=some p->pp[p]?=some k->Kn W C Sb (.pointer (some ⟨k,0,none⟩)) ct (rec p ct seen)):
 Calls prog 121 #[.pointer (some ⟨C,0,none⟩),.pointer (some ⟨g,o,none⟩),.string typ] w fun e w'=>e=.returned (.bool (Ik ⟨LO.map Prod.fst,LI.map Prod.fst,LU.map Prod.fst,roles⟩ rec x typ seen).1)/\w'.heap[Sb]?=some (.cells (Bp (Ik ⟨LO.map Prod.fst,LI.map Prod.fst,LU.map Prod.fst,roles⟩ rec x typ seen).2).toArray 4 (0,0))/\Ag Sb w w':=by
 obtain⟨aA,cA,aC,cC,hc,hok⟩:=hx.ex;have x2:w.cell? ⟨g,o+2,none⟩=some (.string x.name):=hc 2 _ rfl;have x3:w.cell? ⟨g,o+3,none⟩=some (.slice aA x.args.length cA):=hc 3 _ rfl;have X5:=Aa (show w.cell? ⟨g,o+5,none⟩=some (AM pp x.part)from hc 5 _ rfl);have lg:=tR w _ x2;have cC0:w.cell? ⟨C,0,none⟩=some (.pointer (some ⟨S,0,none⟩)):=Ac hC 0;have cC1:w.cell? ⟨C,1,none⟩=some (.pointer (some ⟨V,0,none⟩)):=Ac hC 1;have lC:=Ab hC;have lS:=Ab hs;have HS:=Aa hs;have hbd:=hok.p;have hal:=hok.al;have HAA:=Aa hok.a;have HQ:=Aa (Ik.eq_1 ⟨LO.map Prod.fst,LI.map Prod.fst,LU.map Prod.fst,roles⟩ rec x typ seen);generalize Ik ⟨LO.map Prod.fst,LI.map Prod.fst,LU.map Prod.fst,roles⟩ rec x typ seen=FF at*;simp only[]at HQ hbd hal HAA;have q1:(x.name=FH)↔(x.name.toList==[95,95,116,121,112,101,110,97,109,101])=true:=by
  rw[show(x.name.toList==[95,95,116,121,112,101,110,97,109,101])=decide (x.name=FH)from by rw[<-Cr,Lib.toList_data FH];rfl];exact decide_eq_true_iff.symm
 have n1:(x.name.toList==[95,95,116,121,112,101,110,97,109,101])=false->¬x.name=FH:=fun h e=>by have:=q1.1 e;rw[h]at this;cases this
 have q2:(x.name=FI)↔(x.name.toList==[95,95,116,121,112,101,115])=true:=by
  rw[show(x.name.toList==[95,95,116,121,112,101,115])=decide (x.name=FI)from by rw[<-Cr,Lib.toList_data FI];rfl];exact decide_eq_true_iff.symm
 have n2:(x.name.toList==[95,95,116,121,112,101,115])=false->¬x.name=FI:=fun h e=>by have:=q2.1 e;rw[h]at this;cases this
 have q3:(x.name=Fk)↔(x.name.toList==[95,95,102,105,101,108,100,115])=true:=by
  rw[show(x.name.toList==[95,95,102,105,101,108,100,115])=decide (x.name=Fk)from by rw[<-Cr,Lib.toList_data Fk];rfl];exact decide_eq_true_iff.symm
 have n3:(x.name.toList==[95,95,102,105,101,108,100,115])=false->¬x.name=Fk:=fun h e=>by have:=q3.1 e;rw[h]at this;cases this
 have q4:(typ=bQ)↔(typ.toList==[81,117,101,114,121])=true:=by
  rw[show(typ.toList==[81,117,101,114,121])=decide (typ=bQ)from by rw[<-Cr,Lib.toList_data bQ];rfl];exact decide_eq_true_iff.symm
 have n4:(typ.toList==[81,117,101,114,121])=false->¬typ=bQ:=fun h e=>by have:=q4.1 e;rw[h]at this;cases this
 have HN:=Aa (uV q1 (uV q2 (uV q3 (uV q4 (uV n1 (uV n2 (uV n3 n4)))))));clear q1 q2 q3 q4 n1 n2 n3 n4;have HF:=Aa (fun W (hW:vE w W)=>qX (h.below hW) typ x.name);have HV:=Aa (fun W (hW:vE w W)=>hv.below hW);have HR:=Aa hrec;have hC0:=Aa hC;clear h hv hC hx hs hrec hc hok;generalize Il (LO.map Prod.fst) (LI.map Prod.fst) typ x.name=fp at*;have wS:∀(hF:FF=(x.args.isEmpty&&x.part.isNone,seen)),((x.name.toList==[95,95,116,121,112,101,110,97,109,101])=true\/((x.name.toList==[95,95,116,121,112,101,110,97,109,101])=false/\(x.name.toList==[95,95,116,121,112,101,115])=true/\(typ.toList==[81,117,101,114,121])=true))->Calls prog 121 #[.pointer (some ⟨C,0,none⟩),.pointer (some ⟨g,o,none⟩),.string typ] w fun e w'=>e=.returned (.bool FF.1)/\w'.heap[Sb]?=some (.cells (Bp FF.2).toArray 4 (0,0))/\Ag Sb w w':=by
  intro hF hcase;have HF2:=Aa hF;have T0:((x.args.length:Int)==0)=x.args.isEmpty:=by
   cases x.args with
   |nil=>rfl
   |cons a l=>simp;omega
  clear hF HQ HF HV HR HAA hal;cases hp:x.part with
  |none=>
   have x5:w.cell? ⟨g,o+5,none⟩=some (.pointer none):=by have:=X5.o;rw[hp]at this;exact this
   rw[hp]at HF2;cases ha:x.args.isEmpty<;>rw[ha]at T0 HF2<;>rcases hcase with b1|⟨b1,b2,b4⟩<;>clear hp ha X5 hbd<;>
   ·go_enter func121,ntmps121
    go_wp2_with fail;go_ret;rw[HF2.o];exact⟨rfl,HS.o,Ag.refl _ _⟩
  |some p=>
   obtain⟨kp,hkp⟩:∃kp,pp[p]?=some kp:=⟨_,tN (hbd p hp)⟩;have x5:w.cell? ⟨g,o+5,none⟩=some (.pointer (some ⟨kp,0,none⟩)):=by have:=X5.o;rw[hp]at this;rw[this];simp[AM,hkp]
   rw[hp]at HF2;cases ha:x.args.isEmpty<;>rw[ha]at T0 HF2<;>rcases hcase with b1|⟨b1,b2,b4⟩<;>clear hp ha X5 hbd hkp<;>
   ·go_enter func121,ntmps121
    go_wp2_with fail;go_ret;rw[HF2.o];exact⟨rfl,HS.o,Ag.refl _ _⟩
 have ordinary:∀(hF:FF=cH roles rec x seen fp),(x.name.toList==[95,95,116,121,112,101,110,97,109,101])=false->(((x.name.toList==[95,95,116,121,112,101,115])=false/\(x.name.toList==[95,95,102,105,101,108,100,115])=false)\/((x.name.toList==[95,95,116,121,112,101,115])=true/\(typ.toList==[81,117,101,114,121])=false/\(x.name.toList==[95,95,102,105,101,108,100,115])=false)\/((x.name.toList==[95,95,116,121,112,101,115])=false/\(x.name.toList==[95,95,102,105,101,108,100,115])=true/\(typ.toList==[81,117,101,114,121])=false))->Calls prog 121 #[.pointer (some ⟨C,0,none⟩),.pointer (some ⟨g,o,none⟩),.string typ] w fun e w'=>e=.returned (.bool FF.1)/\w'.heap[Sb]?=some (.cells (Bp FF.2).toArray 4 (0,0))/\Ag Sb w w':=by
  intro hF b1 hcase;have HF2:=Aa hF;obtain⟨p5,hp5⟩:∃p5,AM pp x.part=.pointer p5:=by
   cases x.part with
   |none=>exact⟨none,rfl⟩
   |some p=>exact⟨_,rfl⟩
  have HP5:=Aa hp5;have x5:w.cell? ⟨g,o+5,none⟩=some (.pointer p5):=by have:=X5.o;rw[hp5]at this;exact this
  clear hF HQ hp5 X5;rcases hcase with⟨b2,b3⟩|⟨b2,b4,b3⟩|⟨b2,b3,b4⟩;all_goals(
   go_enter func121,ntmps121;go_wp2_with fail;go_cut [7] (fun v7 wc=>∃q,v7=.pointer q/\vE w wc/\Ll wc S q fp)
   case first=>
    go_region_with (go_at_call 171;refine(HF.o _ ?_).mono ?_;(first|exact(tM _ _).drew|exact tM _ _);rintro _ w1 ⟨q,rfl,bq,hq⟩);all_goals(
     have HBQ:=Aa (show vE w w1 from(by first|exact bq|exact(tM w.heap.size w).drew.trans bq));have HPQ:=Aa (hq.below bq);clear bq hq;go_wp2_with fail;go_meet;exact⟨q,rfl,HBQ.o,HPQ.o⟩)
   case rest=>
   obtain⟨q,rfl,hb,hq⟩:=hcut;have HB:=Aa hb;have x3':=Ah hb x3;have x5':=Ah hb x5;have cC0':=Ah hb cC0;have cC1':=Ah hb cC1;have HSW:=Aa ((hb.block _ lS).trans HS.o);clear x2 x3 x5 cC0 cC1 b1 b2 b3;cases fp with
   |none=>
    have e:q=none:=hq;subst e;have HF3:=Aa (show FF=(false,seen)from HF2.o);go_wp2_with fail;go_ret;rw[HF3.o];exact⟨rfl,HSW.o,Ag.of_below HB.o⟩
   |some f=>
    obtain⟨gf,off,u,e,hfa,hta⟩:=hq;subst e;have HH:=Aa (Yk (HV.o wc hb) hfa);have HAR:=Aa (Zg hfa (AT HAA.o hb) hal);have HFA:=Aa hfa;have HTA:=Aa hta;have lgf:=tR wc _ hfa.c0;have HF3:=Aa (show FF=if Dy roles f.hide_=true then(if Id f x.args=true then Du rec f x.part seen else(false,seen))else(false,seen)from HF2.o);generalize Dy roles f.hide_=mb at*;generalize Id f x.args=ab at*;clear hfa hta HF2 HF hb;cases mb
    ·have HF4:=Aa (show FF=(false,seen)from HF3.o)
     go_wp2_with fail;refine HH.o.mono ?_;rintro _ w2 ⟨rfl,hw2⟩;have hw2:=hw2.symm;subst hw2;go_wp2_with fail;go_ret;rw[HF4.o];exact⟨rfl,HSW.o,Ag.of_below HB.o⟩
    ·cases ab
     ·have HF4:=Aa (show FF=(false,seen)from HF3.o)
      go_wp2_with fail;refine HH.o.mono ?_;rintro _ w2 ⟨rfl,hw2⟩;have hw2:=hw2.symm;subst hw2;go_wp2_with fail;refine HAR.o.mono ?_;rintro _ w3 ⟨rfl,b3⟩;have HB3:=Aa (bT HB.o b3);clear b3;go_wp2_with fail;go_ret;rw[HF4.o];exact⟨rfl,(HB3.o.block _ lS).trans HS.o,Ag.of_below HB3.o⟩
     ·have HF4:=Aa (show FF=Du rec f x.part seen from HF3.o)
      go_wp2_with fail;refine HH.o.mono ?_;rintro _ w2 ⟨rfl,hw2⟩;have hw2:=hw2.symm;subst hw2;go_wp2_with fail;refine HAR.o.mono ?_;rintro _ w3 ⟨rfl,b3⟩;have HB3:=Aa (bT HB.o b3);have x5'':=Ah b3 x5';have HIN:=Aa (fO (C:=C) (pp:=pp) (part:=x.part) (rec:=rec) (HFA.o.below b3) (Bu.stays (Ao.of_below b3) HTA.o) ((HB3.o.block _ lS).trans HS.o) hbd (fun p k e1 e2=>HR.o w3 HB3.o p k _ e1 e2));rw[HP5.o]at HIN;have lgW:=tV lg HB3.o.size;clear b3 x5' x3' cC0' cC1';go_wp2_with fail;refine HIN.o.mono ?_;rintro _ w4 ⟨rfl,h4,k4⟩;rw[<-HF4.o]at h4⊢;have H4:=Aa h4;have K4:=Aa ((Ag.of_below HB3.o).trans k4);clear h4 k4;go_wp2_with fail;go_ret;first|exact⟨rfl,H4.o,K4.o⟩|exact⟨Ak (by simp),H4.o,K4.o⟩)
 have zA:∀(hF:FF=(Qz x.args&&x.part.isNone,seen)),(x.name.toList==[95,95,116,121,112,101,110,97,109,101])=false->(x.name.toList==[95,95,116,121,112,101,115])=false->(x.name.toList==[95,95,102,105,101,108,100,115])=true->(typ.toList==[81,117,101,114,121])=true->Calls prog 121 #[.pointer (some ⟨C,0,none⟩),.pointer (some ⟨g,o,none⟩),.string typ] w fun e w'=>e=.returned (.bool FF.1)/\w'.heap[Sb]?=some (.cells (Bp FF.2).toArray 4 (0,0))/\Ag Sb w w':=by
  intro hF b1 b2 b3 b4;have HF2:=Aa hF;clear hF HQ HF HV HR wS ordinary;obtain⟨p5,hp5,hp6⟩:∃p5,AM pp x.part=.pointer p5/\((p5=none/\x.part.isNone=true)\/(∃a,p5=some a)/\x.part.isNone=false):=by
   cases hp:x.part with
   |none=>exact⟨none,rfl,.inl ⟨rfl,rfl⟩⟩
   |some p=>
    obtain⟨kp,hkp⟩:∃kp,pp[p]?=some kp:=⟨_,tN (hbd p hp)⟩;exact⟨some ⟨kp,0,none⟩,by simp[AM,hkp],.inr ⟨⟨_,rfl⟩,rfl⟩⟩
  have x5:w.cell? ⟨g,o+5,none⟩=some (.pointer p5):=by have:=X5.o;rw[hp5]at this;exact this
  clear X5 hbd hp5;generalize x.part.isNone=pn at*
  match hargs:x.args with
  |[]=>
   rw[hargs]at HF2 x3;have HF3:=Aa (show FF=(false,seen)from HF2.o);clear HAA hp6;go_enter func121,ntmps121;go_wp2_with fail;go_ret;rw[HF3.o];exact⟨rfl,HS.o,Ag.refl _ _⟩
  |a::b::r=>
   rw[hargs]at HF2 x3;have HF3:=Aa (show FF=(false,seen)from HF2.o);have hl2:2<=(a::b::r).length:=by simp
   generalize (a::b::r).length=n at*;have T1:((n:Int)==1)=false:=by simp;omega
   clear HAA hp6;go_enter func121,ntmps121;go_wp2_with fail;go_ret;rw[HF3.o];exact⟨rfl,HS.o,Ag.refl _ _⟩
  |[a]=>
   rw[hargs]at HF2 x3 HAA;obtain⟨gA,cap,hv,hc⟩:=Cn HAA.o (fun _=>rfl) 0 a rfl;have ea:=(Value.slice.inj hv).1;subst ea;have y0:w.cell? ⟨gA,0,none⟩=some (.string a.1):=by simpa using hc 0 _ rfl
   have y1:w.cell? ⟨gA,1,none⟩=some (.int .i64 a.2.1):=by simpa using hc 1 _ rfl
   have y2:w.cell? ⟨gA,2,none⟩=some (.int .i64 a.2.2.1):=by simpa using hc 2 _ rfl
   have y3:w.cell? ⟨gA,3,none⟩=some (.string a.2.2.2):=by simpa using hc 3 _ rfl
   have lA:=tR w _ y0;have HF3:=Aa (show FF=(((a.1.toList==[116,121,112,101])&&Dm a.2 MG true)&&pn,seen)from by
    rw[HF2.o];show((decide (a.1=Qg)&&Dm a.2 MG true)&&pn,seen)=_;rw[<-Cr,Lib.toList_data Qg];rfl)
   have HFT:=Aa (fun W=>MU W a.2 MG true);generalize Dm a.2 MG true=fb at*;clear HAA hc hv HF2 hargs;cases e1:(a.1.toList==[116,121,112,101])
   ·have HF4:=Aa (show FF=(false,seen)from by rw[HF3.o,e1];rfl)
    clear HF3;go_enter func121,ntmps121;go_wp2_with fail;go_ret;rw[HF4.o];exact⟨rfl,HS.o,Ag.refl _ _⟩
   ·have HF4:=Aa (show FF=(fb&&pn,seen)from by rw[HF3.o,e1];rfl)
    clear HF3;cases fb
    ·go_enter func121,ntmps121
     go_wp2_with fail;refine(HFT.o _).mono ?_;rintro _ w1 ⟨rfl,b1'⟩;have HB1:=Aa b1';clear b1';go_wp2_with fail;go_ret;rw[HF4.o];exact⟨rfl,(HB1.o.block _ lS).trans HS.o,Ag.of_below HB1.o⟩
    ·rcases hp6 with⟨e5,e6⟩|⟨⟨pa,e5⟩,e6⟩
     all_goals(
      subst e5 e6;go_enter func121,ntmps121;go_wp2_with fail;refine(HFT.o _).mono ?_;rintro _ w1 ⟨rfl,b1'⟩;have HB1:=Aa b1';have x5':=Ah b1' x5;have lg':=tV lg b1'.size;clear b1' x5;go_wp2_with fail;go_ret;rw[HF4.o];exact⟨rfl,(HB1.o.block _ lS).trans HS.o,Ag.of_below HB1.o⟩)
 obtain⟨q1,q2,q3,q4,n1,n2,n3,n4⟩:=HN.o;cases b1:(x.name.toList==[95,95,116,121,112,101,110,97,109,101])
 ·cases b2:(x.name.toList==[95,95,116,121,112,101,115])
  ·cases b3:(x.name.toList==[95,95,102,105,101,108,100,115])
   ·exact ordinary (by rw[HQ.o,uB (fun e=>e.elim (n1 b1) (fun e=>n2 b2 e.1)),uB (fun e=>n3 b3 e.1)];cases fp<;>rfl) b1 (.inl ⟨b2,b3⟩)
   ·cases b4:(typ.toList==[81,117,101,114,121])
    ·exact ordinary (by rw[HQ.o,uB (fun e=>e.elim (n1 b1) (fun e=>n2 b2 e.1)),uB (fun e=>n4 b4 e.2)];cases fp<;>rfl) b1 (.inr (.inr ⟨b2,b3,b4⟩))
    ·exact zA (by rw[HQ.o,uB (fun e=>e.elim (n1 b1) (fun e=>n2 b2 e.1)),uC ⟨q3.2 b3,q4.2 b4⟩]) b1 b2 b3 b4
  ·have b3:(x.name.toList==[95,95,102,105,101,108,100,115])=false:=by rw[eq_of_beq b2];rfl
   cases b4:(typ.toList==[81,117,101,114,121])
   ·exact ordinary (by rw[HQ.o,uB (fun e=>e.elim (n1 b1) (fun e=>n4 b4 e.2)),uB (fun e=>n3 b3 e.1)];cases fp<;>rfl) b1 (.inr (.inl ⟨b2,b4,b3⟩))
   ·exact wS (by rw[HQ.o,uC (.inr ⟨q2.2 b2,q4.2 b4⟩)]) (.inr ⟨b1,b2,b4⟩)
 ·exact wS (by rw[HQ.o,uC (.inl (q1.2 b1))]) (.inl b1)
end
end Go.Proofs.YtadneapobijejaaGreatDoor
