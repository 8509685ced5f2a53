import Derived.Test.YtogdodlibkckkaaGreatDoorZ42
import Derived.Test.YtogdodlibkckkaaGreatDoorZ41
import Derived.Test.YtogdodlibkckkaaGreatDoorZ35
namespace Go.Proofs.YtogdodlibkckkaaGreatDoor
set_option maxHeartbeats 20000000
set_option maxRecDepth 100000
open Go.RowKit Tryz
structure MX(w0:World)(S:Nat)(vR vO vI vU vN:Value)(LR:List (Au×Value))(LO:List AX)(LI:List (At×Value))(LU:List (Aw×Value))(names:List yF)(T Mm gO Bs V:Nat)(vL:Value)(qs:List AE)(rows:List (yF×MR))(vid:yF)(roles:List yF)(Bq:Nat)(pp:List Nat)(whole:Nat)(m:List Bool)(E:AM):Prop where
 s:SV w0 S vR vO vI vU vN LR LO LI LU names
 g:∃c,vO=.slice (some ⟨gO,0,none⟩) LO.length c
 v:DV w0 V vid roles
 t:IU w0 T S Mm gO Bs LO vL qs rows
 p:Bl w0 Bq pp 0 E.parts
 n:pp.length=E.parts.length
 sl:∀P∈E.parts,P.sels.length<=1000
 ks:∀P∈E.parts,∀x∈P.sels,x.key.size<=4000
 ag:∀P∈E.parts,∀x∈P.sels,∀a∈x.args,a.2.2.2.size<=4000
 pl:E.parts.length<=2000
 eo:E.objs=LO.map Prod.fst
 ei:E.ifs=LI.map Prod.fst
 eu:E.uns=LU.map Prod.fst
 en:E.names=names
 er:E.roles=roles
 ew:E.row=Ej (LO.map Prod.fst) roles vid rows
 ok:MM E whole m
 sz:Ip E
 it:GM w0
 ns:∀x∈names,x.size<=100000
 fs:∀typ fs,Dx (LO.map Prod.fst) (LI.map Prod.fst) typ=some fs->fs≠[]/\∀f∈fs,f.name.size<=100000
structure Hn(w0 w:World)(gO:Nat)(LO:List AX)(g o:Nat)(l:List BU)(r:MR):Prop where
 a:∀X,FT w0.heap.size kM w X->Gp X gO LO g o l r
 v:∀n,Ba w0 (fun g=>g<w0.heap.size) 1603 (EN l n) (EM r n)
theorem Hn.ft{w0 w b:World}{gO g o:Nat}{LO:List AX}{l:List BU}{r:MR}(c:Hn w0 w gO LO g o l r)(e:FT w0.heap.size kM w b):Hn w0 b gO LO g o l r:=⟨fun Y d=>c.a Y (e.trans d),c.v⟩
theorem Hn.of{w0 w:World}{gO g o:Nat}{LO:List AX}{l:List BU}{r:MR}(a:Gp w0 gO LO g o l r)(hb:yG w0 w):Hn w0 w gO LO g o l r:=⟨fun _ b=>a.below (hb.trans b.below),fun n=>a.cont n⟩
def JU(w0:World)(gO:Nat)(LO:List AX)(T V:Nat)(pp:List Nat)(whole:Nat)(m:List Bool)(E:AM)(M f:Nat):Prop:=
 ∀(w:World) (s:Aj) (r:MR) (a:List Nat) (b:Value) (g o c:Nat) (l:List BU),yG w0 w->MK w w0.heap.size M T V pp.length s->RB 0 0 s->0<=s.left->s.left<f->Hn w0 w gO LO g o l r->Jw E r->Et r->MN E whole m r a->a.length<=10000000->w.ownsRow c 120 1 b a.length (Bz pp a)->
  Calls prog 79 #[.pointer (some ⟨M,0,none⟩),.pointer (some ⟨g,o,none⟩),b] w (AQ w w0.heap.size M T V pp.length (.int .i64 (AV E f r a s).1) (AV E f r a s).2)
section
variable {w0:World} {gO:Nat} {LO:List AX} {T V:Nat} {pp:List Nat} {whole:Nat} {m:List Bool} {E:AM} {M f:Nat}
theorem WR(n:JU w0 gO LO T V pp whole m E M f){w:World}{s:Aj}{ro:Option MR}{q:Option Addr}{a:List Nat}{b:Value}{c:Nat}(hb:yG w0 w)(d:MK w w0.heap.size M T V pp.length s)(i:RB 0 0 s)(k:0<=s.left)(t:s.left<f)(u:s.path≠[])(h:KN w0 gO LO q ro)(x:∀r,ro=some r->Jw E r/\Et r/\MN E whole m r a)(v:a.length<=10000000)(z:w.ownsRow c 120 1 b a.length (Bz pp a)):
 Calls prog 220 #[.pointer (some ⟨M,0,none⟩),.pointer q,b] w (AQ w w0.heap.size M T V pp.length (.int .i64 (GH (AV E f) ro a s).1) (GH (AV E f) ro a s).2):=by
 have j:=i.room (by omega) (by omega);cases ro with
 |none=>
  have e:q=none:=h;subst e;exact nZ d j.e j.p u hb.size
 |some r=>
  obtain⟨g,o,l,rfl,y⟩:=h;obtain⟨A,B,C⟩:=x r rfl;exact oA (n w s r a b g o c l hb d i k t (Hn.of y hb) A B C v z)
end
theorem Bx.st{w:World}{B:Nat}{v:Value}{t:Bv}(c:Bx w B v t):∃k,v=.pointer (some ⟨k,0,none⟩)/\k<w.heap.size/\w.cell? ⟨k,3,none⟩=some (.bool (Dk t)):=by
 cases t with
 |one n st=>
  obtain⟨k,b,_,a⟩:=c;exact⟨k,b,Ab a,Ac a 3⟩
 |list t st=>
  obtain⟨k,u,b,_,a,_⟩:=c;exact⟨k,b,Ab a,Ac a 3⟩
def TH(w0:World)(T V:Nat)(pp:List Nat)(whole:Nat)(m:List Bool)(E:AM)(M f k:Nat):Prop:=
 ∀(w:World) (s:Aj) (v:FV) (r:RV) (b:Bv) (d:Value) (a:List Nat) (e:Value) (h i:Nat),yG w0 w->MK w w0.heap.size M T V pp.length s->RB 0 0 s->0<=s.left->s.left<f->s.path≠[]->DL 1 s->Ba w0 (fun g=>g<w0.heap.size) k v r->VS k r->Fw E r b->Bx w0 i d b->(∀q∈a,Dl E.c E.parts whole q (BM b))->JS E.parts m a->a.length<=10000000->w.ownsRow h 120 1 e a.length (Bz pp a)->
  Calls prog 223 #[.pointer (some ⟨M,0,none⟩),Ct v,d,e] w (AQ w w0.heap.size M T V pp.length (.int .i64 (BR E (AV E f) r b a s).1) (BR E (AV E f) r b a s).2)
theorem jZ(t:Nat):AH (t:Int)≠[]:=by
 intro e;have b:AH (t:Int)=Lib.decDigits t:=by unfold AH Lib.itoa;rw[xG (by omega)];simp
 have a:=Lib.decDigits_length t;have c:=Lib.nDigits_pos t;rw[<-b,e]at a;simp at a;omega
theorem RK{p:Prop}[Decidable p]{a:Nat}(b:a<=2):(if p then a else 2)<=2:=by split<;>omega
theorem Tj(E:AM)(f:Nat):∀(c:RV) (e:Bv) (d:List Nat) (s:Aj),(BR E (AV E f) c e d s).1<=2:=by
 have m:∀(h:Cd) (r:MR) (l:List QF) (i a:Nat) (s:Aj),a<=2->(Cv E h r l i a s).1<=2:=by
  intro h r l
  induction l with
  |nil=>intro i a s b;rw[Cv];exact b
  |cons x l g=>
   intro i a s b;rw[Cv];split
   ·exact wQ _
   ·exact g _ _ _ (RK b)
 have j:∀(l:List RV) (i:Nat) (e:Bv) (d:List Nat) (a:Nat) (s:Aj),a<=2->(Cp E (AV E f) l i e d a s).1<=2:=by
  intro l
  induction l with
  |nil=>intro i e d a s b;rw[Cp];exact b
  |cons x l g=>
   intro i e d a s b;rw[Cp];split
   ·exact wQ _
   ·exact g _ _ _ _ _ (RK b)
 intro c e d s;obtain⟨k,n,t,l⟩:=c;rw[BR];split
 ·simp
 split
 ·exact wQ _
 split
 ·unfold GH
  cases E.row t with
  |none=>exact wQ _
  |some r=>
   show(AV E f r d s).1<=2;cases f with
   |zero=>exact wQ _
   |succ f=>rw[AV];exact m _ _ _ _ _ _ (by omega)
 split
 ·exact j _ _ _ _ _ _ (by omega)
 ·simp
theorem jU{s s1 a:Aj}{t:List UInt8}{how1 N:Nat}{st:Bool}(l:PB s)(e:¬s.step.left<0)(b:s1.left=s.step.left)(c:s1.path=s.path)(h:s1.errs=s.errs)(i:s1.data.length<=s.data.length+1)(n:t.length<=4900)(g:Gr (s1.enter t) a 10000 25010050)(p:PL (s1.enter t) a)(d:LB N (s1.enter t) a):Gr s ((Cg (s1.enter t).data.length how1 st a).2.leave s1.path.length) 0 0/\PL s ((Cg (s1.enter t).data.length how1 st a).2.leave s1.path.length)/\ -(N:Int)<=(Cg (s1.enter t).data.length how1 st a).2.left:=by
 have m:PB (s1.enter t):=l.step e b c n;have j:=Gr.settle (s1.enter t).data.length how1 st a (m.pl p);have p2:=PL.settle (s1.enter t).data.length how1 st a;have q:=LB.settle (s1.enter t).data.length how1 st a;have hs:s.step.left=s.left-1:=rfl;have k:=(((Gr.enter s1 t).trans g).trans j).trans (Gr.left (Cg (s1.enter t).data.length how1 st a).2 s1.path.length);have p3:PL s1 ((Cg (s1.enter t).data.length how1 st a).2.leave s1.path.length):=PL.around (p.trans p2);refine⟨k.paid e b i h (by omega) (by omega),⟨p3.1.trans c,by have:=p3.2;omega⟩,?_⟩;unfold LB at d;have f:(s1.enter t).left=s1.left:=rfl;rw[f]at d;omega
section
variable {w0:World} {S:Nat} {vR vO vI vU vN:Value} {LR:List (Au×Value)} {LO:List AX} {LI:List (At×Value)} {LU:List (Aw×Value)} {names:List yF} {T Mm gO Bs V:Nat} {vL:Value} {qs:List AE} {rows:List (yF×MR)} {vid:yF} {roles:List yF} {Bq:Nat} {pp:List Nat} {whole:Nat} {m:List Bool} {E:AM} {M f k:Nat}
theorem WM(A:MX w0 S vR vO vI vU vN LR LO LI LU names T Mm gO Bs V vL qs rows vid roles Bq pp whole m E)(dc:f<=5001)(aX:k<=1603){l:List RV}(K:l=[]\/TH w0 T V pp whole m E M f k)
 {w:World} {s:Aj} {la:Option Addr} {cQ:Nat} {fs:List FV} {h:Bv} {b5:Value} {x:List Nat} {a7:Value} {a8 a9:Nat} (hb:yG w0 w) (bJ:MK w w0.heap.size M T V pp.length s) (aT:RB 0 0 s) (db:s.left<f)
 (bR:fs.length=l.length) (bS:l=[]\/∃g,g<w0.heap.size/\la=some ⟨g,0,none⟩/\∀j c,fs[j]?=some c->w0.cell? ⟨g,j*4,none⟩=some (.int .i64 c.sh)/\w0.cell? ⟨g,j*4+1,none⟩=some (.int .i64 c.n)/\w0.cell? ⟨g,j*4+2,none⟩=some (.string c.s)/\w0.cell? ⟨g,j*4+3,none⟩=some (.slice c.la c.ln c.lc)) (b1:∀(i:Nat) (f:FV) (r:RV),fs[i]?=some f->l[i]?=some r->Ba w0 (fun g=>g<w0.heap.size) k f r) (a4:∀c∈l,VS k c) (df:l.length<=1000) (bQ:∀c∈l,Fw E c h)
 (a3:Bx w0 a9 b5 h) (bW:∀q∈x,Dl E.c E.parts whole q (BM h)) (bU:JS E.parts m x) (cJ:x.length<=10000000) (b0:w.ownsRow a8 120 1 a7 x.length (Bz pp x)):
 Calls prog 250 #[.pointer (some ⟨M,0,none⟩),.slice la l.length cQ,b5,a7] w (AQ w w0.heap.size M T V pp.length (.int .i64 (Cp E (AV E f) l 0 h x 0 (s.write [91])).1) (Cp E (AV E f) l 0 h x 0 (s.write [91])).2):=by
 have cv:=Aa a3;obtain⟨aa,rfl,b3,cz⟩:=a3.st;have aw:=Aa (fun(y:World) (t:Aj) (v:FV) (r:RV) (A:FT w0.heap.size kM w y) (H:MK y w0.heap.size M T V pp.length t) (D:RB 0 0 t) (Z:0<=t.left) (cC:t.left<f) (az:t.path≠[]) (aA:DL 1 t) (aB:Ba w0 (fun g=>g<w0.heap.size) k v r) (I:r∈l)=>(K.resolve_left (fun e=>by rw[e]at I;cases I)) y t v r h (.pointer (some ⟨aa,0,none⟩)) x a7 a8 a9 (hb.trans A.below) H D Z cC az aA aB (a4 r I) (bQ r I) cv.o bW bU cJ (A.own b0 (by decide)));unfold Ct at aw;have bk:=Aa (fun(r:RV) (I:r∈l) (t:Aj) (cI:PB t)=>Qn A.sz (GX E f) (JK A.sz f) k r h x t (a4 r I) cI);have bv:=Aa (fun(r:RV) (t:Aj)=>ME E (GX E f) r h x t);have bh:=Aa (fun(r:RV) (t:Aj) (n:Nat) (cB:DL n t)=>Qm E (NO E f) r h x t n cB);have bp:=Aa (fun(r:RV) (t:Aj)=>Tj E f r h x t);have bl:=Aa (fun(y:World) (cD:yG w0 y) (i:Nat) (dd:i<=100000)=>A.it y cD (i:Int) (by omega) (by omega));have cl:=Aa (fun(c:RV) (b2:List RV) (i F:Nat) (t:Aj)=>(show Cp E (AV E f) (c::b2) i h x F t=_ from Cp.eq_2 E (AV E f) i h x F t c b2));have cm:=Aa (fun(i F:Nat) (t:Aj)=>(show Cp E (AV E f) [] i h x F t=(F,t.write [93])from Cp.eq_1 E (AV E f) i h x F t));generalize BR E (AV E f)=VM at*;generalize Cp E (AV E f)=aP at*;obtain⟨P,bx⟩:∃P,Hi (P=aP l 0 h x 0 (s.write [91])):=⟨_,Aa rfl⟩;rw[<-bx.o];have ah:=hb.size;have aF:=Aa hb;have aO:=Aa (Je ⟨#[91]⟩ (by decide) bJ (aT.room (by omega) (by omega)) ah);have cs:=Aa (show RB 1 0 (s.write [91])from aT.write [91]);have cg:=Aa (show DL 1 (s.write [91])from by show 1<=(s.data++[91]).length;simp);have ck:=Aa bS;have cw:=Aa b1;have cj:=Aa bR;clear hb bJ aT K A b1 a4 bQ a3 bW bU b0 bS bR;unfold AQ at aO aw⊢;have bZ:(s.write [91]).path=s.path/\(s.write [91]).left=s.left:=⟨rfl,rfl⟩;have cu:=Aa bZ;generalize s.write [91]=s1 at*;clear bZ;go_enter func250,ntmps250;go_wp2_with fail;refine aO.o.mono ?_;rintro _ w1 ⟨rfl,H,f1⟩;have bd:=Aa H;have ba:=Aa f1;clear H f1 aO;go_wp2;go_loopg [8,9,10,11,12,13,18] l.length (fun cS v8 v9 v10 v11 v12 v13 v18 wr=>∃(t F:Nat) (a:Aj),v18=.int .i64 t/\v9=.int .i64 F/\t<=l.length/\l.length-t<=cS/\MK wr w0.heap.size M T V pp.length a/\FT w0.heap.size kM w wr/\RB 1 0 a/\a.path=s1.path/\DL 1 a/\a.left<=s1.left/\P=aP (l.drop t) t h x F a)
 case atStart=>exact⟨0,0,s1,rfl,rfl,wZ _,wQ _,bd.o,ba.o,cs.o,rfl,cg.o,Int.le_refl _,bx.o⟩
 case round=>
  obtain⟨t,F,a,rfl,rfl,dh,di,bK,aC,bL,bV,bP,cG,hrel⟩:=hrel;have aI:=Aa bK;have aH:=Aa aC;have O:=Aa bL;have cp:=Aa bV;have cf:=Aa bP;have aq:=Aa hrel;have c9:=aC.size;have R:yG w0 wr:=aF.o.trans aC.below;have c1:=Aa R;have cL:=R.size;clear bK aC bL bV bP hrel bd ba;by_cases ag:t<l.length
  ·have a5:=wS ag
   have aW:l.drop t=l[t]::l.drop (t+1):=xX ag;have aZ:l[t]∈l:=List.getElem_mem ag;generalize l[t]=r at a5 aW aZ;obtain⟨c,aV⟩:∃c,fs[t]?=some c:=⟨_,wS (by have:=cj.o;omega)⟩;obtain⟨g,aE,cA,bN⟩:=ck.o.resolve_left (fun e=>by rw[e]at ag;simp at ag);subst cA;obtain⟨b7,b8,b9,ca⟩:=bN t c aV;have b6:=(R.cell (p:=⟨g,t*4,none⟩) aE).trans b7;have cX:=(R.cell (p:=⟨g,t*4+1,none⟩) aE).trans b8;have cY:=(R.cell (p:=⟨g,t*4+2,none⟩) aE).trans b9;have cZ:=(R.cell (p:=⟨g,t*4+3,none⟩) aE).trans ca;have dk:=wW wr _ b6;have cx:=Aa (cw.o t c r aV a5);have bs:=Aa aZ;have dg:(t:Int)<l.length:=by omega
   have al:=Aa (show P=_ from by rw[aq.o,aW,cl.o]);have aU:=bA (wR wr.heap.size wr) (.cells #[.int .i64 c.sh,.int .i64 c.n,.string c.s,.slice c.la c.ln c.lc] 157);have bg:=Aa (wX wr (.cells #[.int .i64 c.sh,.int .i64 c.n,.string c.s,.slice c.la c.ln c.lc] 157));have X:=Aa (WS (aI.o.below aU) (O.o.room (by omega) (by omega)));have ao:=Aa (aH.o.bt aU ah);unfold AQ at X;clear bN aV a5 aW aZ b7 b8 b9 ca R aU aI aH aq;have bY:a.step.left=a.left-1:=rfl;have au:=Aa bY;clear bY;by_cases a0:a.left-1<0
   ·have af:decide ((0:Int)<=a.left-1)=false:=by simp;omega
    have U:=Aa (show P=(2,a.step)from by rw[al.o,xH (by rw[au.o];exact a0)]);rw[af]at X;clear af a0 al;generalize a.step=u at*;go_wp2_with fail;refine X.o.mono ?_;rintro _ w2 ⟨rfl,D,G⟩;have N:=Aa D;have F2:=Aa (ao.o.trans G);clear D G;go_wp2;go_ret;rw[U.o];exact⟨rfl,N.o,F2.o⟩
   ·have af:decide ((0:Int)<=a.left-1)=true:=by simp;omega
    rw[af]at X;have a2:¬a.step.left<0:=by rw[au.o];exact a0
    have bO:=Rf t a;have U:=Aa (show P=aP (l.drop (t+1)) (t+1) h x (if (Cg ((if 0<t then a.step.write [44]else a.step).enter (AH t)).data.length (VM r h x ((if 0<t then a.step.write [44]else a.step).enter (AH t))).1 (Dk h) (VM r h x ((if 0<t then a.step.write [44]else a.step).enter (AH t))).2).1=true then F else 2) ((Cg ((if 0<t then a.step.write [44]else a.step).enter (AH t)).data.length (VM r h x ((if 0<t then a.step.write [44]else a.step).enter (AH t))).1 (Dk h) (VM r h x ((if 0<t then a.step.write [44]else a.step).enter (AH t))).2).2.leave (if 0<t then a.step.write [44]else a.step).path.length)from by rw[al.o,xG a2]);have aK:=Aa (show Eu a.step from by
     have q:=O.o.room (by omega) (by omega);exact⟨q.d,q.e,q.p,by rw[au.o];omega,by rw[au.o];have:=q.h;omega⟩)
    have ax:=Aa (fun(y:World) (A:MK y w0.heap.size M T V pp.length a.step) (a6:w0.heap.size<=y.heap.size)=>Je ⟨#[44]⟩ (by decide) A aK.o a6);unfold AQ at ax;obtain⟨u,a1⟩:∃u,u=(if 0<t then a.step.write [44]else a.step):=⟨_,rfl⟩;have aL:=Aa a1;rw[<-a1]at U bO;obtain⟨aQ,bF,bG,bH⟩:=bO;have C:=Aa (xZ a2 (xZ aQ (xZ bF (xZ bG bH))));have bT:u.left=a.left-1:=aQ;clear af al a1 aQ bF bG bH a2;go_wp2_with fail;refine X.o.mono ?_;rintro _ w2 ⟨rfl,D,G⟩;have N:=Aa D;have F2:=Aa (ao.o.trans G);have aG:=Aa (G.at bg.o (by decide));have cM:w0.heap.size<=w2.heap.size:=wV ah (ao.o.trans G).size;clear D G X ao bg b6 cX cY cZ
    go_upto_if 27 with fail
    go_cut [] (fun wc=>MK wc w0.heap.size M T V pp.length u/\FT w0.heap.size kM w wc/\wc.heap[wr.heap.size]?=some (.cells #[.int .i64 c.sh,.int .i64 c.n,.string c.s,.slice c.la c.ln c.lc] 157 (0,0)))
    case first=>
     rcases Nat.eq_zero_or_pos t with bE|bE
     ·have aM:=Aa (show u=a.step from by rw[aL.o,xG (by omega)])
      have cE:decide ((0:Int)<(t:Int))=false:=by simp;omega
      go_wp2;go_meet;rw[aM.o];exact⟨N.o,F2.o,aG.o⟩
     ·have aM:=Aa (show u=a.step.write [44]from by rw[aL.o,xH bE])
      have cE:decide ((0:Int)<(t:Int))=true:=by simp;omega
      have cy:=Aa (ax.o w2 N.o cM);clear ax;go_wp2_with fail;refine cy.o.mono ?_;rintro _ w3 ⟨rfl,Z,Y⟩;go_wp2;go_meet;rw[aM.o];exact⟨Z,F2.o.trans Y,Y.at aG.o (by decide)⟩
    case rest=>
     obtain⟨Z,Y,aX⟩:=hcut;have bf:=Aa Z;have bb:=Aa Y;have ap:=Aa aX;have bM:yG w0 wc:=aF.o.trans Y.below;have cN:=bM.size;have bm:=Aa (bl.o wc bM t (by omega));have bX:Eu u:=by
      obtain⟨dl,b4,cT,cU,dm⟩:=C.o;have q:=aK.o;have dn:=O.o.d;exact⟨by omega,by rw[cU];exact q.e,by rw[cT];exact q.p,by rw[b4];exact q.l,by rw[b4];exact q.h⟩
     have am:=Aa (fun(y:World) (A:yG wc y)=>WI ⟨(AH t).toArray⟩ (by show(AH t).toArray.size<=_;have:=RL (i:=t) (by omega);simp;omega) (bf.o.below A) bX (wV cN A.size));rw[show(⟨(AH t).toArray⟩:yF).data.toList=AH t from by simp]at am;unfold AQ at am;have de:=RL (i:=t) (by omega);have cF:AH (t:Int)≠[]:=jZ t;have aJ:=Aa (show RB 0 0 (u.enter (AH t))from O.o.paid (by omega) (by omega) (by have:=C.o.1;omega) C.o.2.1 C.o.2.2.1 C.o.2.2.2.1 C.o.2.2.2.2 (AH t) [] (by omega) (by simp) (by unfold Aj.write;simp));have bu:=Aa (show(u.enter (AH t)).path≠[]from UO u _ cF);have aj:=Aa (show DL 1 (u.enter (AH t))from by
      show 1<=u.data.length;rw[aL.o];have H:=cf.o;unfold DL at H;split
      ·exact DL.write (s:=a.step) H [44]
      ·exact H)
     have aY:(u.enter (AH t)).left=u.left:=rfl;have cq:=Aa (show u.path.length<=(u.enter (AH t)).path.length from by
      show _<=(Cf u.path++AH t).length;have H:=Rk u.path (AH t);have D:=congrArg List.length H;rw[List.length_take]at D;omega)
     have bz:=Aa (fun(g:Gr (u.enter (AH t)) (VM r h x (u.enter (AH t))).2 10000 25010050) (p:PL (u.enter (AH t)) (VM r h x (u.enter (AH t))).2) (cP:LB (1604*f+k) (u.enter (AH t)) (VM r h x (u.enter (AH t))).2)=>jU (how1:=(VM r h x (u.enter (AH t))).1) (st:=Dk h) O.o.p (by have:=C.o.1;omega) C.o.2.1 C.o.2.2.1 C.o.2.2.2.1 C.o.2.2.2.2 (by omega) g p cP);generalize u.enter (AH t)=B at*;have W:=Aa (bk.o r bs.o B aJ.o.p);have ab:=Aa (bv.o r B);have ak:=Aa (bh.o r B B.data.length (wQ _));have bq:=Aa (bp.o r B);have J:=Aa (bz.o W.o.1 ab.o W.o.2);have aN:=Aa (fun(y:World) (A:FT w0.heap.size kM w y) (cH:MK y w0.heap.size M T V pp.length B)=>aw.o y B c r A cH aJ.o (by rw[aY,bT];omega) (by rw[aY,bT];have:=cu.o.2;omega) bu.o aj.o cx.o bs.o);have ad:=Aa (show RB 10000 25010050 (VM r h x B).2 from by
      have q:=aJ.o.gr W.o.1 ab.o (by have:=W.o.2;unfold LB at this;omega);simpa using q)
     generalize VM r h x B=cW at*;obtain⟨how1,L⟩:=cW;simp only[]at U W ab ak bq J aN ad;have ar:=Aa (fun(y:World) (A:MK y w0.heap.size M T V pp.length L) (a6:w0.heap.size<=y.heap.size)=>Sg B.data.length how1 (Dk h) A (ad.o.room (by omega) (by omega)) ak.o (Rh ak.o aj.o) (.inl (by rw[ab.o.1];exact bu.o)) bq.o a6);have bi:=Aa (show DL 1 (Cg B.data.length how1 (Dk h) L).2 from DL.settle (show 1<=L.data.length from wV aj.o ak.o) aj.o);have bw:=Aa (show(Cg B.data.length how1 (Dk h) L).2.path=B.path from(PL.settle B.data.length how1 (Dk h) L).1.trans ab.o.1);have bB:=Aa (show RB 10004 50020100 (Cg B.data.length how1 (Dk h) L).2 from by
      have q:=ad.o.gr (Gr.settle B.data.length how1 (Dk h) L ad.o.p) (PL.settle _ _ _ _) (by rw[LB.settle];exact ad.o.l);simpa using q)
     unfold AQ at ar;generalize Cg B.data.length how1 (Dk h) L=z at*;obtain⟨c0,sz⟩:=z;simp only[]at U J ar bi bw bB;have br:=Aa (fun(y:World) (A:MK y w0.heap.size M T V pp.length sz)=>WL u.path.length A (bB.o.room (by omega) (by omega)) (by rw[bw.o];exact cq.o));unfold AQ at br;have ct:=Aa (show RB 1 0 (sz.leave u.path.length)from by
      have q:=O.o.gr J.o.1 J.o.2.1 (by show _<=sz.left;have:=J.o.2.2;omega);simpa using q)
     have cr:=Aa (show(sz.leave u.path.length).path=s1.path from J.o.2.1.1.trans cp.o);have ch:=Aa (show DL 1 (sz.leave u.path.length)from bi.o);have co:=Aa (show(sz.leave u.path.length).left<=s1.left from Int.le_trans J.o.2.1.2 cG);generalize sz.leave u.path.length=cV at*;have da:=ap;clear Z Y aX W bz J aw bk bv bh bp bl ax N F2 aG bX aY aK C;go_wp2_with fail;refine bm.o.mono ?_;rintro _ w4 ⟨rfl,ay⟩;have bj:=Aa (am.o w4 ay);have bc:=Aa (bb.o.bt ay ah);have bn:=Aa ((ay.block _ (Ab ap.o)).trans ap.o);clear ay bm am bf bb ap;go_wp2_with fail;refine bj.o.mono ?_;rintro _ w5 ⟨rfl,az,aR⟩;have ai:=Aa (bc.o.trans aR);have bo:=Aa (aR.at bn.o (by decide));have cd:=Aa az;obtain⟨dp,dq,ds,aD⟩:=az;obtain⟨c2,c6,c3,c7,c4,c8,rfl,rfl,rfl⟩:=aD.slices;have c5:=Ac aD.b;have dj:=Ab aD.b;have cO:w0.heap.size<=w5.heap.size:=wV ah ai.o.size;have bC:=Aa (aN.o w5.drew ai.o.dr (cd.o.below (wR _ _).drew));have cR:aa<w5.heap.size:=by omega
     have av:=Aa (fun Q (K:FT w0.heap.size kM w5 Q)=>xZ K (xZ (Ac (K.at bo.o (by decide))) (xZ ((K.below.cell (p:=⟨aa,3,none⟩) b3).trans (((aF.o.trans ai.o.below).cell (p:=⟨aa,3,none⟩) b3).trans cz)) (xZ (xA (Ab bo.o) K.size) (xA cR K.size)))));clear aR aD bj bc bn aN;generalize Dk h=st at*;go_wp2;go_region_held3 (fun Q=>FT w0.heap.size kM w5 Q/\(∀j,Q.cell? ⟨wr.heap.size,j,none⟩=(#[.int .i64 c.sh,.int .i64 c.n,.string c.s,.slice c.la c.ln c.lc]:Array Value)[j]?)/\Q.cell? ⟨aa,3,none⟩=some (.bool st)/\wr.heap.size<Q.heap.size/\aa<Q.heap.size)
      (first|exact av.o _ (FT.refl _ _ _).dr|exact av.o _ ((FT.refl _ _ _).dr.trans ae)|exact av.o _ (((FT.refl _ _ _).dr.trans ae).trans aS))
      (first|(go_at_call 223;refine bC.o.mono ?_;rintro _ w6 ⟨rfl,aA,ae⟩)|(go_at_call 78;refine(ar.o _ aA (wV cO ((FT.refl _ _ w5).dr.trans ae).size)).mono ?_;rintro _ w7 ⟨rfl,aB,aS⟩))
     all_goals(
      have cn:=Aa (br.o w7 aB);have cb:=Aa (ai.o.trans (((FT.refl _ _ _).dr.trans ae).trans aS));clear aA ae aB aS av bC ar;cases c0;all_goals(
       go_wp2_with fail;refine cn.o.mono ?_;rintro _ w8 ⟨rfl,I,bI⟩;have ce:=Aa I;have cc:=Aa (cb.o.trans bI);clear I bI;go_wp2;go_roundg (l.length-(t+1))
       case measure=>omega
       case rel=>exact⟨t+1,_,cV,by go_num,rfl,by omega,wQ _,ce.o,cc.o,ct.o,cr.o,ch.o,co.o,U.o⟩))
  ·have cK:t=l.length:=by omega
   subst cK;have ci:=Aa (show P=(F,a.write [93])from by rw[aq.o,List.drop_length,cm.o]);have bD:=Aa (Je ⟨#[93]⟩ (by decide) aI.o (O.o.room (by omega) (by omega)) cL);unfold AQ at bD;clear aq;go_wp2_with fail;refine bD.o.mono ?_;rintro _ w2 ⟨rfl,D,G⟩;have N:=Aa D;have F2:=Aa (aH.o.trans G);clear D G;go_wp2;go_ret;rw[ci.o];exact⟨rfl,N.o,F2.o⟩
end
theorem MK.c01{a:World}{B0 M T V n:Nat}(d:∃s,MK a B0 M T V n s):a.cell? ⟨M,0,none⟩=some (.pointer (some ⟨T,0,none⟩))/\a.cell? ⟨M,1,none⟩=some (.pointer (some ⟨V,0,none⟩))/\M<a.heap.size:=by
 obtain⟨s,e,f,g,c⟩:=d;exact⟨Ac c.b 0,Ac c.b 1,Ab c.b⟩
section
variable {w0:World} {S:Nat} {vR vO vI vU vN:Value} {LR:List (Au×Value)} {LO:List AX} {LI:List (At×Value)} {LU:List (Aw×Value)} {names:List yF} {T Mm gO Bs V:Nat} {vL:Value} {qs:List AE} {rows:List (yF×MR)} {vid:yF} {roles:List yF} {Bq:Nat} {pp:List Nat} {whole:Nat} {m:List Bool} {E:AM} {M f k:Nat}
theorem WU(k:MX w0 S vR vO vI vU vN LR LO LI LU names T Mm gO Bs V vL qs rows vid roles Bq pp whole m E)(Q:JU w0 gO LO T V pp whole m E M f)
 {w:World} {s:Aj} {sh:Nat} {n:Int} {t:yF} {l:List RV} {la:Option Addr} {ln y:Nat} {B:Bv} {aJ:Value} {z:List Nat} {ad:Value} {aK au:Nat} (hb:yG w0 w) (aP:MK w w0.heap.size M T V pp.length s) (aC:RB 0 0 s) (aO:0<=s.left) (aQ:s.left<f) (aD:s.path≠[]) (a1:t.size<=4000) (ao:BE n) (J:Fw E (.mk sh n t l) B)
 (Z:Bx w0 au aJ B) (U:∀q∈z,Dl E.c E.parts whole q (BM B)) (R:JS E.parts m z) (aS:z.length<=10000000) (W:w.ownsRow aK 120 1 ad z.length (Bz pp z))
 (P:sh=7->∀d,FT w0.heap.size kM w d->MK d w0.heap.size M T V pp.length s->∀u D st,B=.list D st->Bx w0 au u D->Calls prog 250 #[.pointer (some ⟨M,0,none⟩),.slice la ln y,u,ad] d (AQ d w0.heap.size M T V pp.length (.int .i64 (Cp E (AV E f) l 0 D z 0 (s.write [91])).1) (Cp E (AV E f) l 0 D z 0 (s.write [91])).2)):
 Calls prog 223 #[.pointer (some ⟨M,0,none⟩),.agg #[.int .i64 sh,.int .i64 n,.string t,.slice la ln y],aJ,ad] w (AQ w w0.heap.size M T V pp.length (.int .i64 (BR E (AV E f) (.mk sh n t l) B z s).1) (BR E (AV E f) (.mk sh n t l) B z s).2):=by
 have ah:=hb.size;have aq:=aC.room (by omega) (by omega);have am:=bA (wR w.heap.size w) (.cells #[.int .i64 sh,.int .i64 n,.string t,.slice la ln y] 157);have ae:=Aa (wX w (.cells #[.int .i64 sh,.int .i64 n,.string t,.slice la ln y] 157));have x:=Aa (show FT w0.heap.size kM w _ from FT.of_below am ah);have F:=Aa (aP.below am);have aa:w0.heap.size<=(w.alloc (.cells #[.int .i64 sh,.int .i64 n,.string t,.slice la ln y] 157)).heap.size:=wV ah am.size;obtain⟨N,i⟩:∃N,Hi (N=BR E (AV E f) (.mk sh n t l) B z s):=⟨_,Aa rfl⟩;rw[<-i.o];rw[BR]at i;by_cases aF:sh=0
 ·subst aF
  rw[xH rfl]at i;unfold AQ;clear k Q J Z U R W P;go_enter func223,ntmps223;go_wp2;go_ret;rw[i.o];exact⟨rfl,F.o,x.o⟩
 rw[xG aF]at i;have aW:((sh:Int)==0)=false:=by simp;omega
 by_cases aI:sh=8
 ·subst aI
  rw[xH rfl]at i;have aw:=Aa (Pv F.o aq.e aq.p aD aa);unfold AQ at aw⊢;clear k Q J Z U R W P;go_enter func223,ntmps223;go_wp2_with fail;refine aw.o.mono ?_;rintro _ w2 ⟨rfl,Y,X⟩;have aj:=Aa Y;have F2:=Aa (x.o.trans X);clear Y X;go_wp2;go_ret;rw[i.o];exact⟨rfl,aj.o,F2.o⟩
 rw[xG aI]at i;have aZ:((sh:Int)==8)=false:=by simp;omega
 by_cases aG:sh=6
 ·subst aG
  rw[xH rfl]at i;obtain⟨c,st,rfl,aE⟩:∃c st,B=.one c st/\∀r,E.row t=some r->AW (E.obj r.1) E.uns c=true:=by
   cases J with
   |lit a b=>exact absurd rfl a
   |ref aB=>exact⟨_,_,rfl,aB⟩
  have az:=Aa (fun d (C:yG w0 d)=>Zm C k.s k.g k.v k.t t (by unfold maxLen;omega));have ax:=Aa (fun(d:World) (q:Option Addr) (C:FT w0.heap.size kM w d) (K:MK d w0.heap.size M T V pp.length s) (ag:KN w0 gO LO q (Ej (LO.map Prod.fst) roles vid rows t))=>(show Calls prog 220 #[.pointer (some ⟨M,0,none⟩),.pointer q,ad] d (AQ d w0.heap.size M T V pp.length (.int .i64 N.1) N.2)from by
   rw[i.o];refine WR Q (hb.trans C.below) K aC aO aQ aD (by rw[k.ew];exact ag) (fun r ap=>?_) aS (C.own W (by decide));exact⟨k.ok.row _ _ ap,k.sz.row _ _ ap,⟨fun p aR=>⟨c,U p aR,aE r ap⟩,R⟩⟩))
  have aL:=Aa hb;unfold AQ at ax⊢;clear k Q J Z U R W P aE i;generalize Ej (LO.map Prod.fst) roles vid rows t=a2 at*;go_enter func223,ntmps223;go_wp2_with fail;generalize w.alloc (.cells #[.int .i64 ((6:Nat):Int),.int .i64 n,.string t,.slice la ln y] 157)=G at*;have L:=Aa (fun h (A:FT w0.heap.size kM G h) (K:∃aU,MK h w0.heap.size M T V pp.length aU)=>xZ A (xZ (MK.c01 K).1 (xZ (MK.c01 K).2.1 (xZ (Ac (A.at ae.o (by decide))) (xZ (MK.c01 K).2.2 (xA (Ab ae.o) A.size))))));have aN:=Aa (az.o G.drew (aL.o.trans x.o.dr.below));clear az;go_region_held3 (fun h=>FT w0.heap.size kM G h/\h.cell? ⟨M,0,none⟩=some (.pointer (some ⟨T,0,none⟩))/\h.cell? ⟨M,1,none⟩=some (.pointer (some ⟨V,0,none⟩))/\(∀j,h.cell? ⟨w.heap.size,j,none⟩=(#[.int .i64 ((6:Nat):Int),.int .i64 n,.string t,.slice la ln y]:Array Value)[j]?)/\M<h.heap.size/\w.heap.size<h.heap.size)
   (first|exact L.o _ (FT.refl _ _ _).dr ⟨_,F.o.below (wR _ _).drew⟩|exact L.o _ ((FT.refl _ _ _).dr.bt H aa) ⟨_,(F.o.below (wR _ _).drew).below H⟩|exact L.o _ (((FT.refl _ _ _).dr.bt H aa).trans I) ⟨_,O⟩)
   (first|(go_at_call 249;refine aN.o.mono ?_;rintro _ w6 ⟨q,rfl,H,ag⟩)|(go_at_call 220;refine(ax.o w6 q ((x.o.dr).bt H ah) ((F.o.below (wR _ _).drew).below H) ag).mono ?_;rintro _ w7 ⟨rfl,O,I⟩))
  all_goals(
   have ak:=Aa O;have ai:=Aa (((x.o.dr).bt H ah).trans I);clear O I H ag;go_wp2;go_ret;exact⟨rfl,ak.o,ai.o⟩)
 rw[xG aG]at i;have aX:((sh:Int)==6)=false:=by simp;omega
 by_cases aH:sh=7
 ·subst aH
  rw[xH rfl]at i;obtain⟨D,st,rfl⟩:∃D st,B=.list D st:=by
   cases J with
   |lit a b=>exact absurd rfl b
   |list aB=>exact⟨_,_,rfl⟩
  obtain⟨ab,u,rfl,a0,af,ar⟩:=Z;have al:=Aa (fun d (C:FT w0.heap.size kM w d) (K:MK d w0.heap.size M T V pp.length s)=>(show Calls prog 250 #[.pointer (some ⟨M,0,none⟩),.slice la ln y,u,ad] d (AQ d w0.heap.size M T V pp.length (.int .i64 N.1) N.2)from by rw[i.o];exact P rfl d C K u D st rfl ar));have aA:∀d,FT w0.heap.size kM w d->d.cell? ⟨ab,2,none⟩=some u:=fun d C=>((hb.trans C.below).cell (p:=⟨ab,2,none⟩) (Ab af)).trans (Ac af 2);have aT:ab<w0.heap.size:=Ab af;have av:=Aa aA;obtain⟨aV,rfl⟩:=ar.ptr;unfold AQ at al⊢;clear k Q J U R W P i af ar aA;go_enter func223,ntmps223;go_wp2_with fail;generalize w.alloc (.cells #[.int .i64 ((7:Nat):Int),.int .i64 n,.string t,.slice la ln y] 157)=G at*;have L:=Aa (fun h (A:FT w0.heap.size kM G h)=>xZ A (xZ (av.o h (x.o.trans A)) (xZ (Ac (A.at ae.o (by decide))) (xZ (xA aT (wV aa A.size)) (xA (Ab ae.o) A.size)))));have aM:=Aa (al.o G.drew x.o.dr (F.o.below (wR _ _).drew));clear al av;go_region_held3 (fun h=>FT w0.heap.size kM G h/\h.cell? ⟨ab,2,none⟩=some (.pointer (some ⟨aV,0,none⟩))/\(∀j,h.cell? ⟨w.heap.size,j,none⟩=(#[.int .i64 ((7:Nat):Int),.int .i64 n,.string t,.slice la ln y]:Array Value)[j]?)/\ab<h.heap.size/\w.heap.size<h.heap.size)
   (first|exact L.o _ (FT.refl _ _ _).dr|exact L.o _ ((FT.refl _ _ _).dr.trans I))
   (first|(go_at_call 250;refine aM.o.mono ?_;rintro _ w7 ⟨rfl,O,I⟩))
  all_goals(
   have ak:=Aa O;have ai:=Aa (x.o.dr.trans I);clear O I;go_wp2;go_ret;exact⟨rfl,ak.o,ai.o⟩)
 rw[xG aH]at i;have aY:((sh:Int)==7)=false:=by simp;omega
 have ay:=Aa (oB (k.it.below (hb.trans x.o.below)) sh n t ao.1 ao.2 ao.len (by omega) F.o aq aa);unfold AQ at ay⊢;clear k Q J Z U R W P;go_enter func223,ntmps223;go_wp2_with fail;refine ay.o.mono ?_;rintro _ w2 ⟨rfl,Y,X⟩;have aj:=Aa Y;have F2:=Aa (x.o.trans X);clear Y X;go_wp2;go_ret;rw[i.o];exact⟨rfl,aj.o,F2.o⟩
theorem WT(p:MX w0 S vR vO vI vU vN LR LO LI LU names T Mm gO Bs V vL qs rows vid roles Bq pp whole m E)(N:f<=5001)(L:JU w0 gO LO T V pp whole m E M f):∀k,k<=1603->TH w0 T V pp whole m E M f k
 |0,ai,w,s,v,.mk sh n t l,am,al,ak,ap,aa,ab,hb,K,j,H,x,P,_,U,W,F,Q,A,y,z,B=>by
  obtain⟨ar,ao,aq,la,ln,aj⟩:=v;obtain⟨e,g,h,C,D⟩:=U;simp only[]at e g h D;subst e g h C D;obtain⟨I,J, -⟩:=W;refine WU p L hb K j H x P I J F Q A y z B (fun Y ad q O u Z st G R=>?_);subst G;exact WM (k:=0) (fs:=[]) p N (by omega) (.inl rfl) (hb.trans q.below) O j x rfl (.inl rfl) (fun i f r d=>by simp at d) (fun c d=>by simp at d) (by simp) (fun c d=>by simp at d) R A y z (q.own B (by decide))
 |k+1,ai,w,s,v,.mk sh n t l,am,al,ak,ap,aa,ab,hb,K,j,H,x,P,_,U,W,F,Q,A,y,z,B=>by
  obtain⟨ar,ao,aq,la,ln,aj⟩:=v;obtain⟨e,g,h,C,fs,D,X,Y⟩:=U;simp only[]at e g h C X;subst e g h C;obtain⟨I,J,af,ag⟩:=W;refine WU p L hb K j H x P I J F Q A y z B (fun ae ad q O u Z st G R=>?_);subst G ae;have ah:∀c∈l,Fw E c Z:=by
   cases F with
   |lit a b=>exact absurd rfl b
   |list d=>exact d
  exact WM (k:=k) (fs:=fs) p N (by omega) (.inr (WT p N L k (by omega))) (hb.trans q.below) O j x D X Y ag af ah R A y z (q.own B (by decide))
end
def JD(k:Nat)(n:Int)(ln:Nat):Nat:=if k=0 then ln else min ln (max 0 n).toNat
theorem nX(w:World)(la:Option Addr)(ln b k:Nat)(n:Int)(t:yF)(h:ln<=b)(i:ln<=1000000):Calls prog 222 #[.slice la ln b,.agg #[.int .i64 k,.int .i64 n,.string t]] w fun e w'=>e=.returned (.slice la (JD k n ln) b)/\yG w w':=by
 have d:=bA (wR w.heap.size w) (.cells #[.int .i64 k,.int .i64 n,.string t] 154);have c:=Aa d;clear d;by_cases f:k=0
 ·subst f
  have a:=Aa (show JD 0 n ln=ln from rfl);go_enter func222,ntmps222;go_wp2;go_ret;rw[a.o];exact⟨rfl,c.o⟩
 ·have g:((k:Int)==0)=false:=by simp;omega
  have a:=Aa (show JD k n ln=min ln (max 0 n).toNat from by unfold JD;rw[xG f]);go_enter func222,ntmps222;go_wp2;go_ret;rw[a.o];exact⟨by rw[show(min (ln:Int) (max 0 n)).toNat=min ln (max 0 n).toNat from by omega];rfl,c.o⟩
theorem Ba.first{w:World}{B:Nat->Prop}{k:Nat}{v:FV}{r:RV}(b:PV)(A:Ba w B k v r):Ba w B k ⟨v.sh,v.n,v.s,v.la,JD b.1 b.2.1 v.ln,v.lc⟩ (Ki b r):=by
 obtain⟨sh,n,t,l⟩:=r;unfold Ki JD;dsimp only;cases k with
 |zero=>
  obtain⟨d,h,m,p,u⟩:=A;subst p;exact⟨d,h,m,by split<;>simp,by show(if _ then v.ln else min v.ln _)=0;rw[u];split<;>simp⟩
 |succ k=>
  obtain⟨d,h,m,p,fs,u,a,C⟩:=A;by_cases e:b.1=0
  ·rw[xH e,xH e]
   exact⟨d,h,m,p,fs,u,a,C⟩
  ·rw[xG e,xG e]
   refine⟨d,h,m,by show min v.ln _=_;rw[p,List.length_take];omega,fs.take (max 0 b.2.1).toNat,by rw[List.length_take,List.length_take,u],?_,fun i f r x z=>?_⟩
   ·rcases a with a|⟨g,E,D,a⟩
    ·exact .inl (by rw[a];simp)
    ·refine .inr ⟨g,E,D,fun j c y=>a j c ?_⟩
     rw[List.getElem?_take]at y;split at y
     ·exact y
     ·cases y
   ·rw[List.getElem?_take]at x z
    split at x
    ·rename_i q
     rw[xH q]at z;exact C i f r x z
    ·cases x
theorem Fw.first{E:AM}{r:RV}{f:Bv}(v:PV)(d:Fw E r f):Fw E (Ki v r) f:=by
 cases d with
 |lit a b=>exact .lit a b
 |ref d=>exact .ref d
 |list d=>
  refine .list (fun c e=>d c ?_);split at e
  ·exact e
  ·exact List.mem_of_mem_take e
theorem Ba.ln{w:World}{B:Nat->Prop}{k:Nat}{v:FV}{r:RV}(a:Ba w B k v r)(hs:VS k r):v.ln<=1000:=by
 obtain⟨sh,n,t,l⟩:=r;cases k with
 |zero=>have:=a.2.2.2.2;omega
 |succ k=>have b:=a.2.2.2.1;have c:=hs.2.2.1;omega
theorem MK.stN{f:World}{B0 M T V n N:Nat}{s:Aj}{cs:Array Value}{K:TypeId}{h:Nat×Nat}(j:MK f B0 M T V n s)(c:f.heap[N]?=some (.cells cs K h))(g:K≠5)(k:K≠117)(i:Nat)(u:Value):MK (f.setCell ⟨N,i,none⟩ u) B0 M T V n s:=by
 obtain⟨l,m,q,a⟩:=j;exact⟨l,m,q,⟨(xC _ _ _ _ (show M≠N from fun e=>by subst e;rw[a.b]at c;cases c;exact k rfl)).trans a.b,Ds a.d (By a.d c g) i u,Ds a.e (By a.e c g) i u,Ds a.p (By a.p c g) i u,a.de,a.dp,a.ep,a.lm⟩⟩
section
variable {w0:World} {S:Nat} {vR vO vI vU vN:Value} {LR:List (Au×Value)} {LO:List AX} {LI:List (At×Value)} {LU:List (Aw×Value)} {names:List yF} {T Mm gO Bs V:Nat} {vL:Value} {qs:List AE} {rows:List (yF×MR)} {vid:yF} {roles:List yF} {Bq:Nat} {pp:List Nat} {whole:Nat} {m:List Bool} {E:AM} {M f k:Nat}
theorem oD(G:MX w0 S vR vO vI vU vN LR LO LI LU names T Mm gO Bs V vL qs rows vid roles Bq pp whole m E)(cv:f<=5001)(aF:JU w0 gO LO T V pp whole m E M f)
 {w:World} {s:Aj} {r:MR} {g o:Nat} {l:List BU} {d:Am} {P ah:Nat} {u:Value} {x:As} {D F:Nat} {k:List Nat} {cf:Value} {bD bE:Nat} (hb:yG w0 w) (cr:MK w w0.heap.size M T V pp.length s) (bk:RB 0 0 s) (bW:0<=s.left) (b3:s.left<f) (br:s.path≠[]) (ct:DL 1 s) (aK:Hn w0 w gO LO g o l r) (cB:Et r) (J:Cn w0 P ah d u) (ap:Bx w0 bE u d.ty) (aI:Fw E (EM r d.name) d.ty) (aY:Fg w0 Bq pp D F x) (hid:d.arg=De->(∃a,x.args=[a])/\Pb d.ty=false) (bl:∀a∈x.args,a.2.2.2.size<=4000)
 (ar:∀q∈k,Dl E.c E.parts whole q (BM d.ty)) (aJ:JS E.parts m k) (b8:k.length<=10000000) (av:w.ownsRow bD 120 1 cf k.length (Bz pp k)):
 Calls prog 168 #[.pointer (some ⟨M,0,none⟩),.pointer (some ⟨g,o,none⟩),.pointer (some ⟨P,ah,none⟩),.agg #[.pointer (some ⟨D,F,none⟩),cf]] w (AQ w w0.heap.size M T V pp.length (.int .i64 (Er E (AV E f) r d (x,k) s).1) (Er E (AV E f) r d (x,k) s).2):=by
 have N:=hb.size;have b9:=bk.room (by omega) (by omega);obtain⟨H,I,rfl⟩:=An av;have Q:=bA (wR w.heap.size w) (.cells #[.pointer (some ⟨D,F,none⟩),.slice H k.length I] 254);have aO:=Aa (wX w (.cells #[.pointer (some ⟨D,F,none⟩),.slice H k.length I] 254));have L:=Aa (show FT w0.heap.size kM w _ from FT.of_below Q N);have ak:=Aa (cr.below Q);have X:w0.heap.size<=(w.alloc (.cells #[.pointer (some ⟨D,F,none⟩),.slice H k.length I] 254)).heap.size:=wV N Q.size;have aN:=Aa (show yG w0 (w.alloc (.cells #[.pointer (some ⟨D,F,none⟩),.slice H k.length I] 254))from hb.trans (Q.mono N));obtain⟨aa,K⟩:∃aa,Hi (aa=Er E (AV E f) r d (x,k) s):=⟨_,Aa rfl⟩;rw[<-K.o];unfold Er at K;have ax:=Aa (wB (G.v.below aN.o) (J.below aN.o));have Z:=Aa (Tc (J.below aN.o));have bo:=(MK.c01 ⟨s,ak.o⟩);have cV:=bo.2.1;have c8:=bo.2.2;have bI:=Aa G.er;generalize b5:DW roles d.auth=cJ at*;have bL:=Aa b5;clear b5 bo Q;cases cJ
 ·rw[xH (by rw[bI.o];exact bL.o)]at K
  have bJ:=Aa (Pv ak.o b9.e b9.p br X);unfold AQ at bJ⊢;clear G aF aI ap ar aJ av aK aY J Z;go_enter func168,ntmps168;go_wp2_with fail;generalize w.alloc (.cells #[.pointer (some ⟨D,F,none⟩),.slice H k.length I] 254)=ab at*;refine ax.o.mono ?_;rintro _ w2 ⟨rfl,C⟩;have C:=C.symm;subst C;go_wp2_with fail;refine bJ.o.mono ?_;rintro _ w2 ⟨rfl,bX,bV⟩;have ci:=Aa bX;have F2:=Aa (L.o.trans bV);clear bX bV;go_wp2;go_ret;rw[K.o];exact⟨rfl,ci.o,F2.o⟩
 rw[xG (by rw[bI.o,bL.o];simp)]at K;obtain⟨bP,bS,cT,cU,bn,aV⟩:=aY.ex;have a6:w0.cell? ⟨D,F+3,none⟩=some (.slice bP x.args.length bS):=bn 3 _ rfl;have a5:=wW w0 _ a6;have aR:=Aa aV.a;have cY:=aV.al;cases aG:decide (d.arg=De)
 rotate_left
 ·have aH:d.arg=De:=of_decide_eq_true aG
  rw[xH aH]at K;rw[aG]at Z;obtain⟨⟨a,ag⟩,b6⟩:=hid aH;obtain⟨c,st,cC⟩:∃c st,d.ty=.one c st:=by
   cases cu:d.ty with
   |one c st=>exact⟨c,st,rfl⟩
   |list t st=>rw[cu]at b6;cases b6
  rw[cC]at ap ar K;obtain⟨a1,rfl, -,aU⟩:=ap;have bg:=aR.o;rw[ag]at bg a6;obtain⟨A,cm,aT,aq⟩:=Cw bg (fun _=>rfl) 0 a rfl;have bh:=(Value.slice.inj aT).1;subst bh;have a8:w0.cell? ⟨A,3,none⟩=some (.string a.2.2.2):=by have:=aq 3 _ rfl;simpa using this
  have a3:=wW w0 _ a8;have cZ:a.2.2.2.size<=4000:=bl a (by rw[ag];exact List.mem_singleton_self _);have bG:=Aa (fun(i:World) (y:yG w0 i) (bx bz bB:Value) (cE:Da i w0.heap.size M T V pp.length s bx bz bB)=>bC y G.s G.g G.v G.t cE.b a.2.2.2 c (by unfold maxLen;omega));have bZ:Kb E a.2.2.2 c=KT (LO.map Prod.fst) (LU.map Prod.fst) c (Ej (LO.map Prod.fst) roles vid rows a.2.2.2):=by
   unfold Kb KT AM.obj;rw[G.ew,G.eo,G.eu]
  have bN:=Aa (fun(i:World) (q:Option Addr) (y:FT w0.heap.size kM w i) (bq:MK i w0.heap.size M T V pp.length s) (au:KN w0 gO LO q (KT (LO.map Prod.fst) (LU.map Prod.fst) c (Ej (LO.map Prod.fst) roles vid rows a.2.2.2)))=>(show Calls prog 220 #[.pointer (some ⟨M,0,none⟩),.pointer q,.slice H k.length I] i (AQ i w0.heap.size M T V pp.length (.int .i64 aa.1) aa.2)from by
   rw[K.o];have bi:CI x=a.2:=by unfold CI;rw[ag];rfl
   simp only[bi,Te];refine WR aF (hb.trans y.below) bq bk bW b3 br (by rw[bZ];exact au) (fun de af=>?_) b8 (y.own av (by decide));unfold Kb at af;cases aX:E.row a.2.2.2 with
   |none=>rw[aX]at af;cases af
   |some df=>
    rw[aX,Option.bind_some]at af;split at af
    ·cases af
    ·rename_i b2
     have co:=xD af;subst co;refine⟨G.ok.row _ _ aX,G.sz.row _ _ aX,⟨fun p cA=>⟨c,ar p cA,?_⟩,aJ⟩⟩;rw[Bool.or_eq_true,not_or]at b2;simpa using b2.2))
  have R:=Aa (fun(i:World) (y:FT w0.heap.size kM w i)=>xZ (((hb.trans y.below).cell (p:=⟨D,F+3,none⟩) a5).trans a6) (xZ (((hb.trans y.below).cell (p:=⟨A,3,none⟩) a3).trans a8) (xZ (((hb.trans y.below).cell (p:=⟨P,ah+5,none⟩) (wW w0 _ J.c5)).trans J.c5) (((hb.trans y.below).cell (p:=⟨a1,0,none⟩) (Ab aU)).trans (Ac aU 0)))));have a4:=wW w0 _ J.c5;have cI:=Ab aU;unfold AQ at bN⊢;clear G aF aI ar aJ av aK aY J K bZ bn aV aq aT bg aR aU hid bl ag;generalize KT (LO.map Prod.fst) (LU.map Prod.fst) c (Ej (LO.map Prod.fst) roles vid rows a.2.2.2)=dg at*;go_enter func168,ntmps168;go_wp2_with fail;generalize w.alloc (.cells #[.pointer (some ⟨D,F,none⟩),.slice H k.length I] 254)=ab at*;refine ax.o.mono ?_;rintro _ w2 ⟨rfl,C⟩;have C:=C.symm;subst C;go_wp2_with fail;refine Z.o.mono ?_;rintro _ w2 ⟨rfl,C⟩;have C:=C.symm;subst C;obtain⟨bx,bz,bB,cc⟩:=ak.o;have cj:=Aa (bG.o ab.drew (aN.o.trans (wR _ _).drew) bx bz bB (cc.below (wR _ _).drew));have al:=Aa (fun h (B:FT w0.heap.size kM ab h)=>xZ B (xZ (Ac (B.at aO.o (by decide))) (xZ (R.o h (L.o.trans B)).1 (xZ (R.o h (L.o.trans B)).2.1 (xZ (R.o h (L.o.trans B)).2.2.1 (xZ (R.o h (L.o.trans B)).2.2.2 (xZ (xA (Ab aO.o) B.size) (xZ (xA a5 (wV X B.size)) (xZ (xA a3 (wV X B.size)) (xZ (xA a4 (wV X B.size)) (xA cI (wV X B.size))))))))))));clear cc bG R ax Z;go_wp2;go_region_held3 (fun h=>FT w0.heap.size kM ab h/\(∀j,h.cell? ⟨w.heap.size,j,none⟩=(#[.pointer (some ⟨D,F,none⟩),.slice H k.length I]:Array Value)[j]?)/\h.cell? ⟨D,F+3,none⟩=some (.slice (some ⟨A,0,none⟩) 1 bS)/\h.cell? ⟨A,3,none⟩=some (.string a.2.2.2)/\h.cell? ⟨P,ah+5,none⟩=some (.pointer (some ⟨a1,0,none⟩))/\h.cell? ⟨a1,0,none⟩=some (.string c)/\w.heap.size<h.heap.size/\D<h.heap.size/\A<h.heap.size/\P<h.heap.size/\a1<h.heap.size)
   (first|exact al.o _ (FT.refl _ _ _).dr|exact al.o _ ((FT.refl _ _ _).dr.bt O X)|exact al.o _ (((FT.refl _ _ _).dr.bt O X).trans ae))
   (first|(go_at_call 221;refine cj.o.mono ?_;rintro _ w6 ⟨q,rfl,O,au⟩)|(go_at_call 220;refine(bN.o w6 q ((L.o.dr).bt O N) ((ak.o.below (wR _ _).drew).below O) au).mono ?_;rintro _ w7 ⟨rfl,aE,ae⟩))
  all_goals(
   have ba:=Aa aE;have a9:=Aa (((L.o.dr).bt O N).trans ae);clear aE ae O au;go_wp2;go_ret;exact⟨rfl,ba.o,a9.o⟩)
 have aH:d.arg≠De:=of_decide_eq_false aG;rw[xG aH]at K;rw[aG]at Z;have aW:=aK.a _ L.o;obtain⟨cM,b0,b7⟩:=aW.c2;have aP:=Aa (UH _ g o cM d.name l b0 b7 aW.n);have aZ:=aK.v d.name;have a0:=cB d.name;have b1:=aW.cap d.name;have cy:=aZ.ln a0;generalize cw:EN l d.name=z at*;generalize cs:EM r d.name=bU at*;obtain⟨ai,aL⟩:∃ai,ai=if x.args=[]then bU else Ki (CI x) bU:=⟨_,rfl⟩;obtain⟨W,bp⟩:∃W:Nat,W=if x.args=[]then z.ln else JD (CI x).1 (CI x).2.1 z.ln:=⟨_,rfl⟩;have bM:=Aa (show aa=BR E (AV E f) ai d.ty k s from by
  rw[K.o,aL];split<;>rfl)
 have ca:Ba w0 (fun g=>g<w0.heap.size) 1603 ⟨z.sh,z.n,z.s,z.la,W,z.lc⟩ ai:=by
  rw[aL,bp];split
  ·exact aZ
  ·exact aZ.first (CI x)
 have cb:VS 1603 ai:=by
  rw[aL];split
  ·exact a0
  ·exact a0.first
 have b4:Fw E ai d.ty:=by
  rw[aL];split
  ·exact aI
  ·exact aI.first _
 obtain⟨cH,cx⟩:=ap.ptr;have aQ:=Aa (fun(i:World) (y:FT w0.heap.size kM w i) (bq:MK i w0.heap.size M T V pp.length s)=>(show Calls prog 223 #[.pointer (some ⟨M,0,none⟩),.agg #[.int .i64 z.sh,.int .i64 z.n,.string z.s,.slice z.la W z.lc],u,.slice H k.length I] i (AQ i w0.heap.size M T V pp.length (.int .i64 aa.1) aa.2)from by
  rw[bM.o];exact WT G cv aF 1603 (wQ _) i s ⟨z.sh,z.n,z.s,z.la,W,z.lc⟩ ai d.ty u k (.slice H k.length I) bD bE (hb.trans y.below) bq bk bW b3 br ct ca cb b4 ap ar aJ b8 (y.own av (by decide))))
 have R:=Aa (fun(i:World) (y:FT w0.heap.size kM w i)=>xZ (((hb.trans y.below).cell (p:=⟨D,F+3,none⟩) a5).trans a6) (xZ (((hb.trans y.below).cell (p:=⟨P,ah+5,none⟩) (wW w0 _ J.c5)).trans J.c5) (((hb.trans y.below).cell (p:=⟨P,ah,none⟩) (wW w0 _ J.c0)).trans J.c0)));have a4:=wW w0 _ J.c5;have bH:=Aa (show x.args≠[]->∃A,bP=some ⟨A,0,none⟩/\A<w0.heap.size/\∀i,FT w0.heap.size kM w i->i.cell? ⟨A,1,none⟩=some (.int .i64 (CI x).1)/\i.cell? ⟨A,2,none⟩=some (.int .i64 (CI x).2.1)/\i.cell? ⟨A,3,none⟩=some (.string (CI x).2.2)from fun U=>by
  obtain⟨a,aS,ag⟩:∃a aS,x.args=a::aS:=by
   cases au:x.args with
   |nil=>exact absurd au U
   |cons a aS=>exact⟨a,aS,rfl⟩
  obtain⟨A,cm,aT,aq⟩:=Cw aR.o (fun _=>rfl) 0 a (by rw[ag];rfl);have bi:CI x=a.2:=by unfold CI;rw[ag];rfl
  have cg:w0.cell? ⟨A,1,none⟩=some (.int .i64 a.2.1):=by have:=aq 1 _ rfl;simpa using this
  have cN:w0.cell? ⟨A,2,none⟩=some (.int .i64 a.2.2.1):=by have:=aq 2 _ rfl;simpa using this
  have a8:w0.cell? ⟨A,3,none⟩=some (.string a.2.2.2):=by have:=aq 3 _ rfl;simpa using this
  have a2:=wW w0 _ cg;refine⟨A,(Value.slice.inj aT).1,a2,fun i y=>?_⟩;rw[bi];exact⟨((hb.trans y.below).cell (p:=⟨A,1,none⟩) a2).trans cg,((hb.trans y.below).cell (p:=⟨A,2,none⟩) a2).trans cN,((hb.trans y.below).cell (p:=⟨A,3,none⟩) a2).trans a8⟩)
 have bf:=Aa bp;have bc:=Aa (fun(i:World)=>nX i z.la z.ln z.lc (CI x).1 (CI x).2.1 (CI x).2.2 b1 (by omega));subst cx;unfold AQ at aQ⊢;unfold Ct at aP;clear G aF aI ar aJ av aK aY J K bM aW b0 b7 aZ a0 ca cb b4 aL bn aV aR ap hid bl cw cs aH aG bp;generalize cd:x.args.length=a7 at*;have bO:=Aa cd;clear cd;generalize (CI x).1=bQ at*;generalize (CI x).2.1=bR at*;generalize (CI x).2.2=at_ at*;obtain⟨aC,aB,aD,az,ao,aA⟩:=z;simp only[]at aP b1 cy aQ bf bc;go_enter func168,ntmps168;go_wp2_with fail;generalize w.alloc (.cells #[.pointer (some ⟨D,F,none⟩),.slice H k.length I] 254)=ab at*;refine ax.o.mono ?_;rintro _ w2 ⟨rfl,C⟩;have C:=C.symm;subst C;go_wp2_with fail;refine Z.o.mono ?_;rintro _ w2 ⟨rfl,C⟩;have C:=C.symm;subst C;obtain⟨bv,bw,cK⟩:=R.o ab L.o;have da:P<ab.heap.size:=xA a4 X;clear ax Z;go_wp2_with fail;refine aP.o.mono ?_;rintro _ w3 ⟨rfl,am⟩;have cP:=Aa am;have Q:=bA (wR w3.heap.size w3) (.cells #[.int .i64 aC,.int .i64 aB,.string aD,.slice az ao aA] 157);have Y:=Aa (wX w3 (.cells #[.int .i64 aC,.int .i64 aB,.string aD,.slice az ao aA] 157));have aw:=Aa (L.o.bt (bT am Q) N);have bF:=Aa (ak.o.below (bT am Q));have aj:=Aa (((bT am Q).block _ (Ab aO.o)).trans aO.o);have cD:w.heap.size<=w3.heap.size:=(L.o.bt am N).size;clear am Q aP bv bw cK ak;go_upto_region 6 with fail;generalize w3.alloc (.cells #[.int .i64 aC,.int .i64 aB,.string aD,.slice az ao aA] 157)=ad at*;obtain⟨bv,bw, -⟩:=R.o ad aw.o;have cL:=Ac aj.o;have c7:=Ab aj.o;have cn:=Ac Y.o;have cp:=Ak Y.o;have c6:=Ab Y.o;have ce:w0.heap.size<=ad.heap.size:=wV N aw.o.size;have db:D<ad.heap.size:=xA a5 ce
 go_upto_if 57 with fail
 go_cut [] (fun wc=>FT w0.heap.size kM w wc/\MK wc w0.heap.size M T V pp.length s/\wc.heap[w.heap.size]?=some (.cells #[.pointer (some ⟨D,F,none⟩),.slice H k.length I] 254 (0,0))/\wc.heap[w3.heap.size]?=some (.cells #[.int .i64 aC,.int .i64 aB,.string aD,.slice az W aA] 157 (0,0)))
 case first=>
  by_cases U:x.args=[]
  ·have cF:a7=0:=by rw[<-bO.o,U];rfl
   subst cF;have bd:=Aa (show W=ao from by rw[bf.o,xH U]);clear U;go_wp2;go_meet;rw[bd.o];exact⟨aw.o,bF.o,aj.o,Y.o⟩
  ·have c4:0<a7:=by rw[<-bO.o];exact List.length_pos_iff.2 U
   have c1:decide ((0:Int)<(a7:Int))=true:=by simp;omega
   have c3:(0:Int)<(a7:Int):=by omega
   have bd:=Aa (show W=JD bQ bR ao from by rw[bf.o,xG U]);obtain⟨A,bh,a3,bY⟩:=bH.o U;subst bh;obtain⟨cQ,cR,cS⟩:=bY ad aw.o;have c9:A<ad.heap.size:=xA a3 ce;have ck:=Aa (fun(i:World) (y:yG ad i)=>(y.block _ (Ab Y.o)).trans Y.o);have cz:¬w.heap.size=w3.heap.size:=Eg aj.o Y.o (by decide);generalize JD bQ bR ao=dd at*;clear U bY;go_wp2;go_region_with (go_at_call 222;refine(bc.o _).mono ?_;rintro _ w6 ⟨rfl,O⟩;have bm:yG ad w6:=(by first|exact O|exact(wR _ _).drew.trans O);have aM:=ck.o w6 bm;have cW:=Ac aM;have cX:=Ak aM;have dc:=Ab aM);all_goals(
    have bb:=Aa bm;have bK:=Aa aM;clear O bm aM;go_wp2;go_meet;rw[bd.o];have cq:=aw.o.bt bb.o N;refine⟨cq.sn N _ cD _,(bF.o.below bb.o).stN bK.o (by decide) (by decide) 3 _,?_,AI bK.o 3 _⟩;exact(xC _ _ _ _ cz).trans ((bb.o.block _ (Ab aj.o)).trans aj.o))
 case rest=>
  obtain⟨ay,bj,bs,bu⟩:=hcut;have ch:=Aa ay;have cO:=Aa bj;have cG:w0.heap.size<=wc.heap.size:=wV N ay.size;have cl:=Aa (aQ.o wc.drew ay.dr (bj.below (wR _ _).drew));have al:=Aa (fun h (B:FT w0.heap.size kM wc h)=>xZ B (xZ (Ac (B.at bs (by decide))) (xZ (Ac (B.at bu (by decide))) (xZ (R.o h (ay.trans B)).2.1 (xZ (xA (Ab bs) B.size) (xZ (xA (Ab bu) B.size) (xA a4 (wV cG B.size))))))));clear ay bj bs bu aQ cL cn cp bv bw bH bc;go_wp2;go_region_held3 (fun h=>FT w0.heap.size kM wc h/\(∀j,h.cell? ⟨w.heap.size,j,none⟩=(#[.pointer (some ⟨D,F,none⟩),.slice H k.length I]:Array Value)[j]?)/\(∀j,h.cell? ⟨w3.heap.size,j,none⟩=(#[.int .i64 aC,.int .i64 aB,.string aD,.slice az W aA]:Array Value)[j]?)/\h.cell? ⟨P,ah+5,none⟩=some (.pointer (some ⟨cH,0,none⟩))/\w.heap.size<h.heap.size/\w3.heap.size<h.heap.size/\P<h.heap.size)
   (first|exact al.o _ (FT.refl _ _ _).dr|exact al.o _ ((FT.refl _ _ _).dr.trans ae))
   (first|(go_at_call 223;refine cl.o.mono ?_;rintro _ w7 ⟨rfl,aE,ae⟩))
  all_goals(
   have ba:=Aa aE;have a9:=Aa (ch.o.dr.trans ae);clear aE ae;go_wp2;go_ret;exact⟨rfl,ba.o,a9.o⟩)
end
end Go.Proofs.YtogdodlibkckkaaGreatDoor
