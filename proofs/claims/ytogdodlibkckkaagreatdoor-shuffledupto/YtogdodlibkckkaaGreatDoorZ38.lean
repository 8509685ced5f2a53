import Derived.Test.YtogdodlibkckkaaGreatDoorZ31
import Derived.Test.YtogdodlibkckkaaGreatDoorZ32
namespace Go.Proofs.YtogdodlibkckkaaGreatDoor
set_option maxHeartbeats 20000000
set_option maxRecDepth 100000
open Go.RowKit Tryz
theorem XQ(pp:List Nat):∀l:List Nat,l.flatMap (fun j=>[AO pp (some j)])=Bz pp l
 |[]=>rfl
 |a::l=>by rw[List.flatMap_cons,XQ pp l];rfl
theorem Sy{w:World}{B e g c:Nat}{pp l:List Nat}(a:w.ownsRow B e 1 (.slice (some ⟨g,0,none⟩) l.length c) l.length (Bz pp l)){j x k:Nat}(d:l[j]?=some x)(f:pp[x]?=some k):w.cell? ⟨g,j,none⟩=some (.pointer (some ⟨k,0,none⟩)):=by
 rw[<-XQ]at a;obtain⟨i,cap,h,b⟩:=Cw a (fun _=>rfl) j x d;have e:=Addr.mk.inj (xD (Value.slice.inj h).1);have:=b 0 _ rfl;rw[<-e.1]at this;simpa [AO,f]using this
section
variable {w w0:World} {B0 B1 G Mb Lb:Nat} {pp:List Nat} {parts:List Ai} {g:Bc} {vo:Value}
theorem VG(ag:Bl w0 B0 pp 0 parts)(D:pp.length=parts.length)(q:BP parts)(aT:pp.length<=2000)(aN:w0.heap.size<=B1)(ai:yG w0 w)(ad:B1<=w.heap.size)(ab:AG w B1 G Mb Lb pp parts g vo){c:Nat}(aS:BF parts.length c g)(bv:c<=5000000){i j aB aC:Nat}(N:pp[i]?=some aB)(O:pp[j]?=some aC):
 Calls prog 113 #[.pointer (some ⟨G,0,none⟩),.pointer (some ⟨aB,0,none⟩),.pointer (some ⟨aC,0,none⟩)] w fun e w'=>e=.returned (.tuple #[])/\∃n,AG w' B1 G Mb Lb pp parts (GT parts i j g) n/\AF G Mb Lb w vo w' n:=by
 have ao:i<parts.length:=by have:=FC N;omega
 have ap:j<parts.length:=by have:=FC O;omega
 have P:=Mi q ao;have Q:=Mi q ap;have Z:=Aa (fun(W:World) (C:yG w0 W) (z:B1<=W.heap.size) (f:Bc) (v':Value) (l:AG W B1 G Mb Lb pp parts f v') (a aA:Nat) (ah:pp[a]?=some aA)=>kO ag D q aT C z l ah);have bc:=Aa (fun(W:World) (C:yG w0 W) (z:B1<=W.heap.size) (f:Bc) (v':Value) (l:AG W B1 G Mb Lb pp parts f v') (bw:BF parts.length c f) (a b aA bD:Nat) (ah:pp[a]?=some aA) (hb:pp[b]?=some bD)=>iG l z (ag.typ' (AA.below C)) D aT bw bv ah hb);have bn:=Aa (show GT parts i j g=JH pp.length (Bi parts j) (Bi parts i) g from by unfold GT;rw[D]);generalize GT parts i j g=T at*;have bI:=Aa N;have bJ:=Aa O;have bd:=Aa (fun x (p:x∈Bi parts i)=>(show∃E,pp[x]?=some E from⟨_,wS (by have:=P.2 x p;omega)⟩));have bf:=Aa (fun x (p:x∈Bi parts j)=>(show∃E,pp[x]?=some E from⟨_,wS (by have:=Q.2 x p;omega)⟩));have a7:=Aa P.2;have a9:=Aa Q.2;have bK:(Bi parts i).length<=2000:=by have:=P.1;omega
 have bL:(Bi parts j).length<=2000:=by have:=Q.1;omega
 have bg:=Aa D;have aD:=Aa ab;have a2:=Aa aS;have aE:=Aa ai;have bz:=RO q ao;have bx:=RO q ap;have a8:=Aa (Z.o w ai ad g vo ab i aB N);have ba:=Aa (fun(W:World) C z f v' l=>Z.o W C z f v' l j aC O);generalize Bi parts i=la at*;generalize Bi parts j=d at*;clear Z ag D q ai ab aS N O P Q ao ap;go_enter func113,ntmps113;go_wp2_with fail;refine a8.o.mono ?_;rintro _ w1 ⟨bp,aK,rfl,aw,aO,aR⟩;obtain⟨H,rfl⟩:∃H,bp=⟨H,0,none⟩:=by
  obtain⟨f,c',e⟩:=NQ aw bz;exact⟨f,xD (Value.slice.inj e).1⟩
 have bh:=Aa aw;have aV:=Aa aO;have aZ:=Aa aR;clear aw aO aR;go_wp2;go_loopg [7,9,14,22] la.length (fun m v7 v9 v14 v22 wr=>∃(t:Nat) (f:Bc) (n:Value),v14=.int .i64 t/\t<=la.length/\la.length-t<=m/\AG wr B1 G Mb Lb pp parts f n/\AF G Mb Lb w vo wr n/\BF parts.length c f/\wr.ownsRow B1 120 1 (.slice (some ⟨H,0,none⟩) la.length aK) la.length (Bz pp la)/\T=JH pp.length d (la.drop t) f)
 case atStart=>exact⟨0,g,vo,rfl,wZ _,wQ _,aV.o,aZ.o,a2.o,bh.o,bn.o⟩
 case round=>
  obtain⟨t,f,n,rfl,bO,bP,l,hF,ae,J,hrel⟩:=hrel;have s:=Aa hrel;have U:=Aa l;have Y:=Aa hF;have a1:=Aa ae;have aH:=Aa J;have L:yG w0 wr:=aE.o.trans ((hF.below aD.o).mono aN);have aY:=Aa L;have bt:B1<=wr.heap.size:=wV ad hF.size;by_cases au:t<la.length
  ·have p:=wS au
   have ak:la.drop t=la[t]::la.drop (t+1):=xX au;have R:la[t]∈la:=List.getElem_mem au;generalize la[t]=x at p ak R;obtain⟨E,aq⟩:=bd.o x R;have aL:=Sy J p aq;have bF:=wW wr _ aL;rw[ak]at s;have r:=Aa (show T=JH pp.length d (la.drop (t+1)) (Jc pp.length x d f)from by rw[s.o,JH]);have bo:=Aa (a7.o x R);have a5:=Aa aq;have a6:=Aa (ba.o wr L bt f n l);clear l hF ae J L p ak R aq s hrel;go_wp2_with fail;refine a6.o.mono ?_;rintro _ w2 ⟨bq,br,rfl,ax,aP,am⟩;obtain⟨aa,rfl⟩:∃aa,bq=⟨aa,0,none⟩:=by
    obtain⟨f,c',e⟩:=NQ ax bx;exact⟨f,xD (Value.slice.inj e).1⟩
   have bi:=Aa ax;have aW:=Aa aP;have aF:=Aa am;have bl:=Aa (am.pts U.o aH.o);obtain⟨aU,bC⟩:∃aU:World,aU=wr:=⟨_,rfl⟩;rw[<-bC]at aF Y U aH aY;clear ax aP am aL bF;go_wp2_with fail;obtain⟨v,aJ⟩:∃v,Hi (v=Jc pp.length x d f):=⟨_,Aa rfl⟩;rw[<-aJ.o]at r;go_loopg [9,22] d.length (fun m v9 v22 wr=>∃(h:Nat) (k:Bc) (F:Value),v22=.int .i64 h/\h<=d.length/\d.length-h<=m/\AG wr B1 G Mb Lb pp parts k F/\AF G Mb Lb w vo wr F/\BF parts.length c k/\wr.ownsRow B1 120 1 (.slice (some ⟨aa,0,none⟩) d.length br) d.length (Bz pp d)/\wr.ownsRow B1 120 1 (.slice (some ⟨H,0,none⟩) la.length aK) la.length (Bz pp la)/\v=Jc pp.length x (d.drop h) k)
   case atStart=>exact⟨0,f,n,rfl,wZ _,wQ _,aW.o,Y.o.trans aF.o,a1.o,bi.o,bl.o,aJ.o⟩
   case round=>
    obtain⟨h,k,F,rfl,bM,bN,I,A,B,K,af,ay⟩:=hrel;have u:=Aa ay;have V:=Aa I;have aG:=Aa A;have a3:=Aa B;have bj:=Aa K;have aI:=Aa af;have aj:yG w0 wr:=aE.o.trans ((A.below aD.o).mono aN);have bu:B1<=wr.heap.size:=wV ad A.size;by_cases av:h<d.length
    ·have az:=wS av
     have al:d.drop h=d[h]::d.drop (h+1):=xX av;have S:d[h]∈d:=List.getElem_mem av;generalize d[h]=y at az al S;obtain⟨bE,ar⟩:=bf.o y S;have aM:=Sy K az ar;have bG:=wW wr _ aM;rw[al]at u;have X:=Aa (show v=Jc pp.length x (d.drop (h+1)) (If pp.length x y k)from by rw[u.o,Jc]);have bb:=Aa (bc.o wr aj bu k F I B x y E bE a5.o ar);have a4:=Aa (show BF parts.length c (If pp.length x y k)from by rw[bg.o];exact Se B bo.o (a9.o y S));generalize If pp.length x y k=bs at*;clear I A B K af aj az al S ar u ay;go_wp2_with fail;refine bb.o.mono ?_;rintro _ w5 ⟨rfl,bH,aQ,M⟩;have aX:=Aa aQ;have a0:=Aa (aG.o.trans M);have bk:=Aa (M.pts V.o bj.o);have bm:=Aa (M.pts V.o aI.o);clear aQ M aM bG;go_wp2;go_roundg (d.length-(h+1))
     case measure=>omega
     case rel=>exact⟨h+1,bs,bH,by go_num,by omega,wQ _,aX.o,a0.o,a4.o,bk.o,bm.o,X.o⟩
    ·have bB:h=d.length:=by omega
     subst bB;have X:=Aa (show v=k from by rw[u.o,List.drop_length];rfl);rw[X.o]at r;clear I A B K af aj ay u;go_wp2;go_roundg (la.length-(t+1))
     case measure=>omega
     case rel=>exact⟨t+1,k,F,by go_num,by omega,wQ _,V.o,aG.o,a3.o,aI.o,r.o⟩
  ·have bA:t=la.length:=by omega
   subst bA;have r:=Aa (show T=f from by rw[s.o,List.drop_length];rfl);clear l hF ae J hrel s L;go_wp2;go_end0;rw[r.o];exact⟨rfl,_,U.o,Y.o⟩
end
end Go.Proofs.YtogdodlibkckkaaGreatDoor
