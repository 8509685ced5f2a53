import Derived.Test.YtadneapobijejaaGreatDoorC45
import Derived.Conc.MuLone
import Derived.Defers
import Derived.KernelRfl
namespace Go.Proofs.YtadneapobijejaaGreatDoor
set_option maxHeartbeats 20000000
set_option maxRecDepth 100000
open Go.RowKit Tryz
open Go.MuLone Tryz
abbrev muLink:Go.Conc.Locks.MuLink:={lock:=26,unlock:=27,ilock:=52,iunlock:=53,lockSlow:=93,unlockSlow:=96,disable:=89,enable:=91,acquire:=92,relMerge:=94,cas32:=90,add32:=95,tMutex:=47,tIMutex:=45,tPMutex:=138,tPIMutex:=213,tPI32:=215,tUP:=217,tNoCopy:=42,tU32:=43}
theorem muLib:Go.Conc.Locks.MuLib prog muLink:=
 ⟨func26,func27,func52,func53,func89,func91,func92,func94,func90,func95,underlying45,runUnderlying45,sizeOf45,isAgg45,zeroValue45,underlying47,runUnderlying47,sizeOf47,isAgg47,zeroValue47,underlying138,runUnderlying138,sizeOf138,isAgg138,zeroValue138,underlying213,runUnderlying213,sizeOf213,isAgg213,zeroValue213,underlying215,runUnderlying215,sizeOf215,isAgg215,zeroValue215,underlying217,runUnderlying217,sizeOf217,isAgg217,zeroValue217,underlying42,runUnderlying42,sizeOf42,isAgg42,zeroValue42,underlying21,runUnderlying21,sizeOf21,isAgg21,zeroValue21,(by kernel_rfl)⟩
def JL(w:World)(V T:Nat):Prop:=w.heap[V]?=some (.cells #[.int .i32 0,.int .u32 0,.pointer (some ⟨T,0,none⟩)] 49 (0,0))
theorem gE{w:World}{V T:Nat}(h:JL w V T):Calls prog 13 #[.pointer (some ⟨V,0,none⟩)] w fun e w'=>e=.returned (.pointer (some ⟨T,0,none⟩))/\vE w w':=by
 have c:=Ac h;have f:=Am h;have l:=Ab h;have h0:w.cell? ⟨V,0,none⟩=some (.int .i32 0):=c 0;have f0:=f 0
 go_enter_defers func13,ntmps13
 go_wp2_with (go_at_call 26;refine(lock_free muLib ⟨V,0,none⟩ _ h0 f0).mono ?_;rintro e w' ⟨rfl,rfl⟩);refine leaves_cons (f:=27) (args:=#[.pointer (some ⟨V,0,none⟩)]) (by simp) (by simp[go_sem]) ?_;have h1:=AI h 0 (.int .i32 1);refine(unlock_deferred muLib ⟨V,0,none⟩ .returning _ (Ac h1 0) (Am h1 0)).mono ?_;rintro e u' w'' ⟨rfl,rfl,rfl⟩;refine⟨_,results_tmp rfl _ _ _,rfl,⟨rfl,rfl,rfl,by simp[World.setCell],fun k hk=>?_⟩⟩;by_cases e:k=V
 ·subst e
  rw[AI h1 0 (.int .i32 0)];exact h.symm
 ·exact(tX _ _ _ _ e).trans (tX _ _ _ _ e)
def Hx(c:Be)(ys:List Bc):Bool:=Lc c.objs (c.ifs.map As.name) (c.uns.map Au.name) c.uns ys
def EN(x:vD)(ys:List Bc):Nat:=if EV x=0 then(if Hx (Aw (Af x)).1 ys=true then 0 else 3)else EV x
structure Ji(w:World)(T:Nat)(c:Be)(ys:List Bc):Prop where
 ex:∃S gO vR vO vI vU vN LR LO LI LU,SV w S vR vO vI vU vN LR LO LI LU c.names/\LR.map Prod.fst=c.roles/\LO.map Prod.fst=c.objs/\LI.map Prod.fst=c.ifs/\LU.map Prod.fst=c.uns/\(∃k,vO=.slice (some ⟨gO,0,none⟩) LO.length k)/\JM w T S gO c.objs ys
theorem Ji.below{w w':World}{T:Nat}{c:Be}{ys:List Bc}(h:Ji w T c ys)(hb:vE w w'):Ji w' T c ys:=by
 obtain⟨S,gO,vR,vO,vI,vU,vN,LR,LO,LI,LU,hsv,mR,mO,mI,mU,hg,hT⟩:=h.ex;exact⟨S,gO,vR,vO,vI,vU,vN,LR,LO,LI,LU,hsv.below hb,mR,mO,mI,mU,hg,hT.below hb⟩
theorem Ph(x:vD)(h:EV x=0):GQ (Aw (Af x)).1=true:=by
 unfold EV at h;split at h
 ·split at h
  ·assumption
  ·cases h
 ·cases h
theorem mB{c:Be}(h:GQ c=true):c.objs≠[]:=fun e=>by
 unfold GQ at h;simp only[uL]at h;have:=h.2.2.2.2.2;rw[e]at this;cases this
theorem nZ(x:vD)(w:World)(hs:x.size<=maxLen)(aY:Option Addr)(cY:Nat)(ys:List Bc)(hY:Fh w (.slice aY ys.length cY) ys)(hyl:ys.length<=1000000)(hcl:∀y∈ys,y.2.1.size<=2000000/\y.2.2.length<=900000/\∀c∈y.2.2,c.2.size<=2000000):
 Calls prog 11 #[.string x,.slice aY ys.length cY] w fun e w'=>∃q,e=.returned (.tuple #[.pointer q,.int .i64 (EN x ys)])/\vE w w'/\(EN x ys=0->∃T,q=some ⟨T,0,none⟩/\Ji w' T (Aw (Af x)).1 ys):=by
 have HR:=Aa (pW x w hs);have HRC:=Aa (show EN x ys=if EV x=0 then(if Hx (Aw (Af x)).1 ys=true then 0 else 3)else EV x from rfl);have HRI:=Aa (Ph x);generalize EN x ys=RC at*;generalize EV x=k at*;generalize (Aw (Af x)).1=c at*;by_cases hk:k=0
 ·subst hk
  rw[uC rfl]at HRC;have HO:=Aa (mB (HRI.o rfl));go_enter func11,ntmps11;go_wp2_with fail;refine HR.o.mono ?_;rintro _ w1 ⟨q,rfl,b1,hS⟩;obtain⟨S,rfl,hS2⟩:=hS trivial;obtain⟨vR,vO,vI,vU,vN,LR,LO,LI,LU,hsv,mR,mO,mI,mU⟩:=hS2.ex;obtain⟨gO,hgO⟩:∃gO,∃k,vO=.slice (some ⟨gO,0,none⟩) LO.length k:=by
   rcases hsv.o.own.2 with⟨_,e⟩|⟨g,cap,cur,hv,_⟩
   ·exact absurd (by rw[<-mO,tZ e];rfl) HO.o
   ·exact⟨g,cap,hv⟩
  have HSR:=Aa (rA w1 hsv hgO aY cY ys (hY.below b1) hyl hcl);have HK:=Aa (uV hsv (uV mR (uV mO (uV mI (uV mU hgO)))));have e1:Lc (LO.map Prod.fst) (LI.map iN) (LU.map uN) (LU.map Prod.fst) ys=Hx c ys:=by
   unfold Hx;rw[mO,mU,<-mI,<-mU,List.map_map,List.map_map];rfl
  rw[e1]at HSR;rw[mO]at HSR;generalize Hx c ys=st at*;clear hS hS2 hsv mR mO mI mU hgO e1 hY hcl;cases st
  ·go_wp2_with fail
   refine HSR.o.mono ?_;rintro _ w2 ⟨q,rfl,b2, -⟩;go_wp2_with fail;go_ret2;exact⟨_,by rw[HRC.o];rfl,bT b1 b2,fun e=>by rw[HRC.o]at e;cases e⟩
  ·go_wp2_with fail
   refine HSR.o.mono ?_;rintro _ w2 ⟨q,rfl,b2,hT⟩;obtain⟨T,rfl,hT2⟩:=hT trivial;go_wp2_with fail;go_ret2;obtain⟨h1,h2,h3,h4,h5,h6⟩:=HK.o;exact⟨_,by rw[HRC.o];rfl,bT b1 b2,fun _=>⟨T,rfl,S,gO,vR,vO,vI,vU,vN,LR,LO,LI,LU,h1.below b2,h2,h3,h4,h5,h6,hT2⟩⟩
 ·rw[uB hk]at HRC
  have hk2:¬(k:Int)=0:=by omega
  have HK:=Aa hk;clear hk hY hcl;go_enter func11,ntmps11;go_wp2_with fail;refine HR.o.mono ?_;rintro _ w1 ⟨q,rfl,b1, -⟩;go_wp2_with fail;go_ret2;exact⟨_,by rw[HRC.o];rfl,b1,fun e=>absurd (HRC.o.symm.trans e) HK.o⟩
theorem VU(x:vD)(w:World)(hs:x.size<=maxLen)(aY:Option Addr)(cY:Nat)(ys:List Bc)(hY:Fh w (.slice aY ys.length cY) ys)(hyl:ys.length<=1000000)(hcl:∀y∈ys,y.2.1.size<=2000000/\y.2.2.length<=900000/\∀c∈y.2.2,c.2.size<=2000000):
 Calls prog 5 #[.string x,.slice aY ys.length cY] w fun e w'=>∃q,e=.returned (.tuple #[.pointer q,.int .i64 (EN x ys)])/\vE w w'/\(EN x ys≠0->q=none)/\(EN x ys=0->∃V T,q=some ⟨V,0,none⟩/\JL w' V T/\Ji w' T (Aw (Af x)).1 ys):=by
 have HR:=Aa (nZ x w hs aY cY ys hY hyl hcl);generalize EN x ys=k at*;clear hY hcl;by_cases hk:k=0
 ·subst hk
  go_enter func5,ntmps5;go_wp2_with fail;refine HR.o.mono ?_;rintro _ w1 ⟨q,rfl,b1,hT⟩;obtain⟨T,rfl,hK⟩:=hT trivial;have HK:=Aa hK;have HB:=Aa b1;clear hT hK b1;go_wp2_with fail;go_ret2;refine⟨_,rfl,bA HB.o _,fun h=>absurd rfl h,fun _=>⟨w1.heap.size,T,rfl,tS w1 _,HK.o.below (bA (tM _ _) _)⟩⟩
 ·have hk2:¬(k:Int)=0:=by omega
  have HK:=Aa hk;clear hk;go_enter func5,ntmps5;go_wp2_with fail;refine HR.o.mono ?_;rintro _ w1 ⟨q,rfl,b1, -⟩;go_wp2_with fail;go_ret2;exact⟨none,rfl,b1,fun _=>rfl,fun e=>absurd e HK.o⟩
end Go.Proofs.YtadneapobijejaaGreatDoor
