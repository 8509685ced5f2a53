import Derived.Test.YtogdodlibkckkaaGreatDoorZ45
import Derived.Conc.MuLone
import Derived.Defers
import Derived.KernelRfl
namespace Go.Proofs.YtogdodlibkckkaaGreatDoor
set_option maxHeartbeats 20000000
set_option maxRecDepth 100000
open Go.RowKit Tryz
open Go.MuLone Tryz
abbrev muLink:Go.Conc.Locks.MuLink:={lock:=48,unlock:=49,ilock:=80,iunlock:=81,lockSlow:=127,unlockSlow:=130,disable:=123,enable:=125,acquire:=126,relMerge:=128,cas32:=124,add32:=129,tMutex:=76,tIMutex:=74,tPMutex:=196,tPIMutex:=258,tPI32:=260,tUP:=262,tNoCopy:=71,tU32:=72}
theorem muLib:Go.Conc.Locks.MuLib prog muLink:=
 ⟨func48,func49,func80,func81,func123,func125,func126,func128,func124,func129,underlying74,runUnderlying74,sizeOf74,isAgg74,zeroValue74,underlying76,runUnderlying76,sizeOf76,isAgg76,zeroValue76,underlying196,runUnderlying196,sizeOf196,isAgg196,zeroValue196,underlying258,runUnderlying258,sizeOf258,isAgg258,zeroValue258,underlying260,runUnderlying260,sizeOf260,isAgg260,zeroValue260,underlying262,runUnderlying262,sizeOf262,isAgg262,zeroValue262,underlying71,runUnderlying71,sizeOf71,isAgg71,zeroValue71,underlying21,runUnderlying21,sizeOf21,isAgg21,zeroValue21,(by kernel_rfl)⟩
def MS(w:World)(V T:Nat):Prop:=w.heap[V]?=some (.cells #[.int .i32 0,.int .u32 0,.pointer (some ⟨T,0,none⟩)] 78 (0,0))
theorem kF{w:World}{V T:Nat}(a:MS w V T):Calls prog 24 #[.pointer (some ⟨V,0,none⟩)] w fun e w'=>e=.returned (.pointer (some ⟨T,0,none⟩))/\yG w w':=by
 have c:=Ac a;have f:=Ak a;have l:=Ab a;have g:w.cell? ⟨V,0,none⟩=some (.int .i32 0):=c 0;have d:=f 0
 go_enter_defers func24,ntmps24
 go_wp2_with (go_at_call 48;refine(lock_free muLib ⟨V,0,none⟩ _ g d).mono ?_;rintro e w' ⟨rfl,rfl⟩);refine leaves_cons (f:=49) (args:=#[.pointer (some ⟨V,0,none⟩)]) (by simp) (by simp[go_sem]) ?_;have b:=AI a 0 (.int .i32 1);refine(unlock_deferred muLib ⟨V,0,none⟩ .returning _ (Ac b 0) (Ak b 0)).mono ?_;rintro e i j ⟨rfl,rfl,rfl⟩;refine⟨_,results_tmp rfl _ _ _,rfl,⟨rfl,rfl,rfl,by simp[World.setCell],fun k h=>?_⟩⟩;by_cases e:k=V
 ·subst e
  rw[AI b 0 (.int .i32 0)];exact a.symm
 ·exact(xC _ _ _ _ e).trans (xC _ _ _ _ e)
def Ij(c:Be)(ys:List AY):Bool:=Lt c.objs (c.ifs.map At.name) (c.uns.map Aw.name) c.uns ys
def Eo(x:yF)(ys:List AY):Nat:=if Fj x=0 then(if Ij (Ao (Ad x)).1 ys=true then 0 else 3)else Fj x
structure GN(w:World)(T:Nat)(c:Be)(ys:List AY):Prop where
 ex:∃S gO vR vO vI vU vN LR LO LI LU,SV w S vR vO vI vU vN LR LO LI LU c.names/\LR.map Prod.fst=c.roles/\LO.map Prod.fst=c.objs/\LI.map Prod.fst=c.ifs/\LU.map Prod.fst=c.uns/\(∃k,vO=.slice (some ⟨gO,0,none⟩) LO.length k)/\JZ w T S gO c.objs ys
theorem GN.below{w w':World}{T:Nat}{c:Be}{ys:List AY}(g:GN w T c ys)(hb:yG w w'):GN w' T c ys:=by
 obtain⟨S,f,s,r,p,t,q,d,b,a,e,j,m,l,k,n,i,h⟩:=g.ex;exact⟨S,f,s,r,p,t,q,d,b,a,e,j.below hb,m,l,k,n,i,h.below hb⟩
theorem Qe(x:yF)(a:Fj x=0):He (Ao (Ad x)).1=true:=by
 unfold Fj at a;split at a
 ·split at a
  ·assumption
  ·cases a
 ·cases a
theorem pF{c:Be}(a:He c=true):c.objs≠[]:=fun e=>by
 unfold He at a;simp only[xQ]at a;have:=a.2.2.2.2.2;rw[e]at this;cases this
theorem qU(x:yF)(w:World)(hs:x.size<=maxLen)(r:Option Addr)(s:Nat)(ys:List AY)(u:Fv w (.slice r ys.length s) ys)(W:ys.length<=1000000)(v:∀y∈ys,y.2.1.size<=2000000/\y.2.2.length<=900000/\∀c∈y.2.2,c.2.size<=2000000):
 Calls prog 20 #[.string x,.slice r ys.length s] w fun e w'=>∃q,e=.returned (.tuple #[.pointer q,.int .i64 (Eo x ys)])/\yG w w'/\(Eo x ys=0->∃T,q=some ⟨T,0,none⟩/\GN w' T (Ao (Ad x)).1 ys):=by
 have B:=Aa (sO x w hs);have a:=Aa (show Eo x ys=if Fj x=0 then(if Ij (Ao (Ad x)).1 ys=true then 0 else 3)else Fj x from rfl);have J:=Aa (Qe x);generalize Eo x ys=RC at*;generalize Fj x=k at*;generalize (Ao (Ad x)).1=c at*;by_cases i:k=0
 ·subst i
  rw[xH rfl]at a;have I:=Aa (pF (J.o rfl));go_enter func20,ntmps20;go_wp2_with fail;refine B.o.mono ?_;rintro _ w1 ⟨q,rfl,b,E⟩;obtain⟨S,rfl,F⟩:=E trivial;obtain⟨Z,H,X,aa,Y,K,n,C,p,j,G,d,A,l⟩:=F.ex;obtain⟨t,z⟩:∃t,∃k,H=.slice (some ⟨t,0,none⟩) n.length k:=by
   rcases j.o.own.2 with⟨_,e⟩|⟨g,cap,ab,V,_⟩
   ·exact absurd (by rw[<-d,xE e];rfl) I.o
   ·exact⟨g,cap,V⟩
  have f:=Aa (tQ w1 j z r s ys (u.below b) W v);have m:=Aa (xZ j (xZ G (xZ d (xZ A (xZ l z)))));have D:Lt (n.map Prod.fst) (C.map iN) (p.map uN) (p.map Prod.fst) ys=Ij c ys:=by
   unfold Ij;rw[d,l,<-A,<-l,List.map_map,List.map_map];rfl
  rw[D]at f;rw[d]at f;generalize Ij c ys=st at*;clear E F j G d A l z D u v;cases st
  ·go_wp2_with fail
   refine f.o.mono ?_;rintro _ w2 ⟨q,rfl,h, -⟩;go_wp2;go_ret2;exact⟨_,by rw[a.o];rfl,bT b h,fun e=>by rw[a.o]at e;cases e⟩
  ·go_wp2_with fail
   refine f.o.mono ?_;rintro _ w2 ⟨q,rfl,h,R⟩;obtain⟨T,rfl,U⟩:=R trivial;go_wp2;go_ret2;obtain⟨L,M,N,O,P,Q⟩:=m.o;exact⟨_,by rw[a.o];rfl,bT b h,fun _=>⟨T,rfl,S,t,Z,H,X,aa,Y,K,n,C,p,L.below h,M,N,O,P,Q,U⟩⟩
 ·rw[xG i]at a
  have ad:¬(k:Int)=0:=by omega
  have m:=Aa i;clear i u v;go_enter func20,ntmps20;go_wp2_with fail;refine B.o.mono ?_;rintro _ w1 ⟨q,rfl,b, -⟩;go_wp2;go_ret2;exact⟨_,by rw[a.o];rfl,b,fun e=>absurd (a.o.symm.trans e) m.o⟩
theorem Xb(x:yF)(w:World)(hs:x.size<=maxLen)(d:Option Addr)(f:Nat)(ys:List AY)(l:Fv w (.slice d ys.length f) ys)(r:ys.length<=1000000)(m:∀y∈ys,y.2.1.size<=2000000/\y.2.2.length<=900000/\∀c∈y.2.2,c.2.size<=2000000):
 Calls prog 15 #[.string x,.slice d ys.length f] w fun e w'=>∃q,e=.returned (.tuple #[.pointer q,.int .i64 (Eo x ys)])/\yG w w'/\(Eo x ys≠0->q=none)/\(Eo x ys=0->∃V T,q=some ⟨V,0,none⟩/\MS w' V T/\GN w' T (Ao (Ad x)).1 ys):=by
 have h:=Aa (qU x w hs d f ys l r m);generalize Eo x ys=k at*;clear l m;by_cases g:k=0
 ·subst g
  go_enter func15,ntmps15;go_wp2_with fail;refine h.o.mono ?_;rintro _ w1 ⟨q,rfl,a,j⟩;obtain⟨T,rfl,i⟩:=j trivial;have b:=Aa i;have n:=Aa a;clear j i a;go_wp2;go_ret2;refine⟨_,rfl,bA n.o _,fun p=>absurd rfl p,fun _=>⟨w1.heap.size,T,rfl,wX w1 _,b.o.below (bA (wR _ _) _)⟩⟩
 ·have s:¬(k:Int)=0:=by omega
  have b:=Aa g;clear g;go_enter func15,ntmps15;go_wp2_with fail;refine h.o.mono ?_;rintro _ w1 ⟨q,rfl,a, -⟩;go_wp2;go_ret2;exact⟨none,rfl,a,fun _=>rfl,fun e=>absurd e b.o⟩
end Go.Proofs.YtogdodlibkckkaaGreatDoor
