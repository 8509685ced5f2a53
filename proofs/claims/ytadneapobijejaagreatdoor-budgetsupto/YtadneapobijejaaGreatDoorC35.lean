import Derived.Test.YtadneapobijejaaGreatDoorC33
import Derived.BigQuiet
import Derived.Deep.RegionHeld3
namespace Go.Proofs.YtadneapobijejaaGreatDoor
set_option maxHeartbeats 20000000
set_option maxRecDepth 100000
open Go.RowKit Tryz
structure Gf(w:World)(gO:Nat)(LO:List AV)(g o:Nat)(l:List BR)(r:MR):Prop where
 k:r.1<LO.length
 c0:w.cell? ⟨g,o,none⟩=some (.pointer (some ⟨gO,r.1*4,none⟩))
 c2:∃vC,w.cell? ⟨g,o+2,none⟩=some vC/\Ge w vC l
 n:l.length<=1000000
 nm:l.map Cv=r.2.map Prod.fst
 v:∀(j:Nat) (c:BR) (x:vD×RV),l[j]?=some c->r.2[j]?=some x->AX w (fun g=>g<w.heap.size) 1603 c.c x.2
 lc:∀c∈l,c.c.ln<=c.c.lc
theorem Gf.below{w w':World}{gO g o:Nat}{LO:List AV}{l:List BR}{r:MR}(h:Gf w gO LO g o l r)(hb:vE w w'):Gf w' gO LO g o l r:=by
 obtain⟨vC,h1,h2⟩:=h.c2;exact⟨h.k,Ah hb h.c0,⟨vC,Ah hb h1,h2.below hb⟩,h.n,h.nm,fun j c x hc hx=>(h.v j c x hc hx).frame (fun g hg o=>hb.cell (p:=⟨g,o,none⟩) hg) (fun g hg=>tV hg hb.size),h.lc⟩
def Pn:RV->Nat×Int×vD->Bool
 | .mk k n t _,m=>((k:Int)==(m.1:Int))&&((n==m.2.1)&&(t.toList==m.2.2.toList))
def TT(r:MR)(id n:vD)(y:Option (Nat×Int×vD)):Bool:=Pn (Fm r n) (Gs id (Fo y).1 (Fo y).2.1 (Fo y).2.2)
def MZ(roles:List vD)(id:vD)(r:MR)(o:Ap):Bool:=o.rule.isSome&&!Hm (fun n=>AS n roles) (TT r id) o.tree
theorem AX.eq3{w:World}{B:Nat->Prop}:∀{k:Nat} {f:FV} {r:RV} (m:Nat×Int×vD),AX w B k f r->Go.Proofs.YtadneapobijejaaGreatDoor.eq3 f m=Pn r m
 |0,f,.mk sh n s l,m,h=>by
  obtain⟨h1,h2,h3,_⟩:=h;unfold Go.Proofs.YtadneapobijejaaGreatDoor.eq3 Pn;rw[h1,h2,h3]
 |k+1,f,.mk sh n s l,m,h=>by
  obtain⟨h1,h2,h3,_⟩:=h;unfold Go.Proofs.YtadneapobijejaaGreatDoor.eq3 Pn;rw[h1,h2,h3]
theorem Gf.cont{w:World}{gO g o:Nat}{LO:List AV}{l:List BR}{r:MR}(h:Gf w gO LO g o l r)(n:vD):AX w (fun g=>g<w.heap.size) 1603 (EC l n) (Fm r n):=by
 unfold EC Fm;rw[h.nm];by_cases hneg:Ae (r.2.map Prod.fst) n<0
 ·rw[uC hneg,uC hneg]
  exact⟨rfl,rfl,rfl,rfl,[],rfl,.inl rfl,fun i f x hf=>by simp at hf⟩
 ·rw[uB hneg,uB hneg]
  obtain⟨j,x,hj,hx,_,hjl⟩:=Cl Prod.fst r.2 n hneg;rw[hj,uO,hx];have hll:l.length=r.2.length:=by have:=congrArg List.length h.nm;simpa using this
  obtain⟨c,hc⟩:∃c,l[j]?=some c:=⟨_,tN (by omega)⟩;rw[hc];exact h.v j c x hc hx
theorem Gf.cap{w:World}{gO g o:Nat}{LO:List AV}{l:List BR}{r:MR}(h:Gf w gO LO g o l r)(n:vD):(EC l n).ln<=(EC l n).lc:=by
 unfold EC;by_cases hneg:Ae (l.map Cv) n<0
 ·rw[uC hneg];exact tL _
 ·rw[uB hneg]
  cases hc:l[(Ae (l.map Cv) n).toNat]? with
  |none=>exact tL _
  |some c=>exact h.lc c (tO hc)
theorem Gf.eqP{w:World}{gO g o:Nat}{LO:List AV}{l:List BR}{r:MR}(h:Gf w gO LO g o l r)(id:vD):Go.Proofs.YtadneapobijejaaGreatDoor.eqP l id=TT r id:=by
 funext n y;exact(h.cont n).eq3 _
structure IF(w:World)(T S M gO B:Nat)(LO:List AV)(vL:Value)(qs:List AE)(rows:List (vD×MR)):Prop where
 st:EA w T S M gO B vL qs
 ids:qs.map AE.id=rows.map Prod.fst
 row:∀(j:Nat) (q:AE) (x:vD×MR) (g cap:Nat),qs[j]?=some q->rows[j]?=some x->vL=.slice (some ⟨g,0,none⟩) qs.length cap->Gf w gO LO g (j*3) q.cs x.2
theorem IF.below{w w':World}{T S M gO B:Nat}{LO:List AV}{vL:Value}{qs:List AE}{rows:List (vD×MR)}(h:IF w T S M gO B LO vL qs rows)(hb:vE w w'):IF w' T S M gO B LO vL qs rows:=⟨h.st.below hb,h.ids,fun j q x g cap h1 h2 h3=>(h.row j q x g cap h1 h2 h3).below hb⟩
def Fp(rows:List (vD×MR))(id:vD):Option MR:=if Ae (rows.map Prod.fst) id<0 then none else rows[(Ae (rows.map Prod.fst) id).toNat]?.map Prod.snd
def Eg(objs:List Ap)(roles:List vD)(vid:vD)(rows:List (vD×MR))(id:vD):Option MR:=(Fp rows id).bind fun r=>if MZ roles vid r (objs.getD r.1 Gt)=true then none else some r
def Ks(w:World)(gO:Nat)(LO:List AV)(q:Option Addr):Option MR->Prop
 |none=>q=none
 |some r=>∃g o l,q=some ⟨g,o,none⟩/\Gf w gO LO g o l r
section
variable {w w0:World} {S:Nat} {vR vO vI vU vN:Value} {LR:List (At×Value)} {LO:List AV} {LI:List (As×Value)} {LU:List (Au×Value)} {names:List vD} {T M gO B V:Nat} {vL:Value} {qs:List AE} {rows:List (vD×MR)}
theorem Uf(h:IF w0 T S M gO B LO vL qs rows)(hb:vE w0 w)(id:vD)(hid:id.size<=maxLen):Calls prog 48 #[.pointer (some ⟨T,0,none⟩),.string id] w fun e w'=>(∃q,e=.returned (.pointer q)/\Ks w0 gO LO q (Fp rows id))/\w'=w:=by
 refine(RZ (h.st.below hb) id hid).mono ?_;rintro e w' ⟨rfl,rfl⟩;refine⟨?_,rfl⟩;unfold Fp;rw[h.ids];by_cases hneg:Ae (rows.map Prod.fst) id<0
 ·rw[uC hneg]
  exact⟨none,by unfold AC;rw[uC hneg],rfl⟩
 ·rw[uB hneg]
  obtain⟨j,x,hj,hx,_,hjl⟩:=Cl Prod.fst rows id hneg;rw[hj,uO,hx];have hll:qs.length=rows.length:=by have:=congrArg List.length h.ids;simpa using this
  obtain⟨q,hq⟩:∃q,qs[j]?=some q:=⟨_,tN (by omega)⟩;obtain⟨gR,cap,e,_⟩:=h.st.at hq;refine⟨some ⟨gR,j*3,none⟩,by rw[e];unfold AC;rw[uB (by omega)];rfl,gR,j*3,q.cs,rfl,h.row j q x gR cap hq hx e⟩
theorem Yn(hb0:vE w0 w)(hS:SV w0 S vR vO vI vU vN LR LO LI LU names)(hg:∃c,vO=.slice (some ⟨gO,0,none⟩) LO.length c){vid:vD}{roles:List vD}(hv:DM w0 V vid roles)(h:IF w0 T S M gO B LO vL qs rows)(id:vD)(hid:id.size<=maxLen):Calls prog 217 #[.pointer (some ⟨V,0,none⟩),.pointer (some ⟨T,0,none⟩),.string id] w fun e w'=>∃q,e=.returned (.pointer q)/\vE w w'/\Ks w0 gO LO q (Eg (LO.map Prod.fst) roles vid rows id):=by
 have HF:=Aa (Uf h hb0 id hid);have HQ:=Aa (Eg.eq_1 (LO.map Prod.fst) roles vid rows id);generalize Eg (LO.map Prod.fst) roles vid rows id=FF at*;have HH:=Aa (fun g o l r (hr0:Gf w0 gO LO g o l r)=>(show Calls prog 237 #[.pointer (some ⟨V,0,none⟩),.pointer (some ⟨g,o,none⟩)] w fun e w'=>e=.returned (.bool (MZ roles vid r ((LO.map Prod.fst).getD r.1 Gt)))/\vE w w' from by
  obtain⟨c,ec⟩:=hg;have hr:=hr0.below hb0;have hS:=hS.below hb0;have hv:=hv.below hb0;obtain⟨vC,hc2,hpc⟩:=hr.c2;obtain⟨y,hy⟩:∃y,LO[r.1]?=some y:=⟨_,tN hr.k⟩;have hmem:=tO hy;obtain⟨g',cap',e',hcell⟩:=hS.o.cell (fun _=>rfl) r.1 y hy;rw[ec]at e';have e3:=Addr.mk.inj (tY (Value.slice.inj e').1);have h3:w.cell? ⟨gO,r.1*4+3,none⟩=some y.2.2.2:=by rw[e3.1];exact hcell 3 _ rfl
  have hok:=hS.o.ok y hmem;have q:=mW (id:=vid) hv vC y.2.2.2 l y.1.rule y.1.tree hr.c0 h3 hc2 hpc hr.n hok.2.2.2.2;have eo:(LO.map Prod.fst).getD r.1 Gt=y.1:=by rw[List.getD_eq_getElem?_getD,uD,hy];rfl
  unfold MZ;rw[eo,<-hr.eqP vid];exact q))
 generalize Fp rows id=fr at*;clear h hS hv;go_enter func217,ntmps217;go_wp2_with fail;refine HF.o.mono ?_;rintro _ w1 ⟨⟨q,rfl,hq⟩,hw1⟩;have hw1:=hw1.symm;subst hw1;cases fr with
 |none=>
  have e:q=none:=hq;subst e;have HE:=Aa (show FF=none from HQ.o);clear hq;go_wp2_with fail;go_ret;rw[HE.o];exact⟨none,rfl,tM _ _,rfl⟩
 |some r=>
  obtain⟨g,o,l,e,hr⟩:=hq;subst e;have HR:=Aa hr;have HHC:=Aa (HH.o g o l r hr);have HE:=Aa (show FF=if MZ roles vid r ((LO.map Prod.fst).getD r.1 Gt)=true then none else some r from HQ.o);generalize MZ roles vid r ((LO.map Prod.fst).getD r.1 Gt)=hb at*;clear hr HH HQ;cases hb
  ·have HE2:=Aa (show FF=some r from HE.o)
   go_wp2_with fail;refine HHC.o.mono ?_;rintro _ w2 ⟨rfl,b2⟩;have HB:=Aa b2;clear b2;go_wp2_with fail;go_ret;rw[HE2.o];exact⟨_,rfl,HB.o,g,o,l,rfl,HR.o⟩
  ·have HE2:=Aa (show FF=none from HE.o)
   go_wp2_with fail;refine HHC.o.mono ?_;rintro _ w2 ⟨rfl,b2⟩;have HB:=Aa b2;clear b2;go_wp2_with fail;go_ret;rw[HE2.o];exact⟨none,rfl,HB.o,rfl⟩
end
def Ky(objs:List Ap)(uns:List Au)(typ:vD)(r:Option MR):Option MR:=r.bind fun r=>if decide ((objs.getD r.1 Gt).name=bQ)||!AU (objs.getD r.1 Gt) uns typ then none else some r
section
variable {w w0:World} {S:Nat} {vR vO vI vU vN:Value} {LR:List (At×Value)} {LO:List AV} {LI:List (As×Value)} {LU:List (Au×Value)} {names:List vD} {T M gO B V:Nat} {vL:Value} {qs:List AE} {rows:List (vD×MR)}
theorem Zl(hb0:vE w0 w)(hS:SV w0 S vR vO vI vU vN LR LO LI LU names)(hg:∃c,vO=.slice (some ⟨gO,0,none⟩) LO.length c){vid:vD}{roles:List vD}(hv:DM w0 V vid roles)(h:IF w0 T S M gO B LO vL qs rows){Mk:Nat}{v2 v3 v4 v5 v6:Value}(hM:w.heap[Mk]?=some (.cells #[.pointer (some ⟨T,0,none⟩),.pointer (some ⟨V,0,none⟩),v2,v3,v4,v5,v6] 86 (0,0)))(id typ:vD)(hid:id.size<=maxLen):Calls prog 186 #[.pointer (some ⟨Mk,0,none⟩),.string id,.string typ] w fun e w'=>∃q,e=.returned (.pointer q)/\vE w w'/\Ks w0 gO LO q (Ky (LO.map Prod.fst) (LU.map Prod.fst) typ (Eg (LO.map Prod.fst) roles vid rows id)):=by
 have HV:=Aa (fun W (hW:vE w W)=>Yn (hb0.trans (hW.mono hb0.size)) hS hg hv h id hid);have HOF:=Aa (fun W (hW:vE w W) k x (hx:LO[k]?=some x)=>RE (hS.below (hb0.trans (hW.mono hb0.size))) k x hx typ gO hg);have HOB:=Aa (fun k x (hx:LO[k]?=some x)=>(show w.cell? ⟨gO,k*4,none⟩=some (.string x.1.name)from by
  refine Ah hb0 ?_;obtain⟨c,ec⟩:=hg;obtain⟨g',cap',e',hcell⟩:=hS.o.cell (fun _=>rfl) k x hx;rw[ec]at e';have e3:=Addr.mk.inj (tY (Value.slice.inj e').1);rw[e3.1];simpa using hcell 0 _ rfl))
 have cM:=Ac hM;have lM:=Ab hM;have hTb:=(hb0.block _ (Ab h.st.b)).trans h.st.b;have cT:=Ac hTb;have lT:=Ab hTb;have HM:=Aa hM;have HTb:=Aa hTb;have HB0:=Aa hb0;have HQ:=Aa (Ky.eq_1 (LO.map Prod.fst) (LU.map Prod.fst) typ (Eg (LO.map Prod.fst) roles vid rows id));generalize Ky (LO.map Prod.fst) (LU.map Prod.fst) typ (Eg (LO.map Prod.fst) roles vid rows id)=FF at*;generalize Eg (LO.map Prod.fst) roles vid rows id=vr at*;clear hS hv h hM hTb;go_enter func186,ntmps186;go_wp2_with fail;go_cut [7] (fun v7 wc=>∃q,v7=.pointer q/\vE w wc/\Ks w0 gO LO q vr)
 case first=>
  go_region_with (go_at_call 217;refine(HV.o _ ?_).mono ?_;(first|exact(tM _ _).drew|exact tM _ _);rintro _ w1 ⟨q,rfl,b1,hq⟩);all_goals(
   have HB1:=Aa (show vE w w1 from(by first|exact b1|exact(tM w.heap.size w).drew.trans b1));have HR1:=Aa hq;clear b1 hq;go_wp2_with fail;go_meet;exact⟨q,rfl,HB1.o,HR1.o⟩)
 case rest=>
 obtain⟨q,rfl,hb,hq⟩:=hcut;have HB:=Aa hb;have cM1:=Ac ((hb.block _ lM).trans HM.o);have lM1:=tV lM hb.size;have cT1:=Ac ((hb.block _ lT).trans HTb.o);have lT1:=tV lT hb.size;clear cM lM cT lT HV;cases vr with
 |none=>
  have e:q=none:=hq;subst e;have HE:=Aa (show FF=none from HQ.o);clear hq hb;go_wp2_with fail;go_quiet (fail);go_wp2_with fail;go_ret;rw[HE.o];exact⟨none,rfl,below_drewN HB.o _,rfl⟩
 |some r=>
  obtain⟨g,o,l,e,hr⟩:=hq;subst e;obtain⟨x,hx⟩:∃x,LO[r.1]?=some x:=⟨_,tN hr.k⟩;have HR:=Aa hr;have r0:=Ah hb (Ah HB0.o hr.c0);have lr:=tR wc _ r0;have o0:=Ah hb (HOB.o r.1 x hx);have lo:=tR wc _ o0;have eo:(LO.map Prod.fst).getD r.1 Gt=x.1:=by rw[List.getD_eq_getElem?_getD,uD,hx];rfl
  have HE:=Aa (show FF=if ((x.1.name.toList==[81,117,101,114,121])||!AU x.1 (LU.map Prod.fst) typ)=true then none else some r from by
   rw[HQ.o];simp only[Option.bind_some];rw[eo,show(x.1.name.toList==[81,117,101,114,121])=decide (x.1.name=bQ)from by rw[<-Cr,Lib.toList_data bQ];rfl])
  have HOC:=Aa (fun W (hW:vE w W)=>HOF.o W hW r.1 x hx);generalize AU x.1 (LU.map Prod.fst) typ=ob at*;cases nb:(x.1.name.toList==[81,117,101,114,121])
  ·rw[nb]at HE
   have HE2:=Aa (show FF=if ob=false then none else some r from by rw[HE.o];cases ob<;>rfl);have HS:=Aa (fun V' (hV:vE w V')=>uV hV (uV (Ac ((hV.block _ (Ab HM.o)).trans HM.o)) (uV (Ac ((hV.block _ (Ab HTb.o)).trans HTb.o)) (uV (Ah hV (Ah HB0.o HR.o.c0)) (uV (Ah hV (HOB.o r.1 x hx)) (uV (tV (Ab HM.o) hV.size) (tV (Ab HTb.o) hV.size)))))));clear hr hb HE HOF;go_wp2_with fail;go_region_held3 (fun V'=>vE w V'/\(∀j,V'.cell? ⟨Mk,j,none⟩=(#[.pointer (some ⟨T,0,none⟩),.pointer (some ⟨V,0,none⟩),v2,v3,v4,v5,v6]:Array Value)[j]?)/\(∀j,V'.cell? ⟨T,j,none⟩=(#[vL,.pointer (some ⟨S,0,none⟩),.map (some M)]:Array Value)[j]?)/\V'.cell? ⟨g,o,none⟩=some (.pointer (some ⟨gO,r.1*4,none⟩))/\V'.cell? ⟨gO,r.1*4,none⟩=some (.string x.1.name)/\Mk<V'.heap.size/\T<V'.heap.size)
    (first|exact HS.o _ HB.o.drew|exact HS.o _ (bT bh b2))
    (first|(go_at_call 181;obtain⟨bh, -⟩:= ‹vE w _/\_›;refine(HOC.o _ bh).mono ?_;rintro _ w2 ⟨rfl,b2⟩))
   all_goals(
    obtain⟨bh, -⟩:= ‹vE w _/\_›;cases ob
    ·have HE3:=Aa (show FF=none from HE2.o)
     go_wp2_with fail;go_ret;rw[HE3.o];exact⟨none,rfl,bh,rfl⟩
    ·have HE3:=Aa (show FF=some r from HE2.o)
     go_wp2_with fail;go_ret;rw[HE3.o];exact⟨_,rfl,bh,g,o,l,rfl,HR.o⟩)
  ·rw[nb]at HE
   have HE2:=Aa (show FF=none from HE.o);clear hr hb HE HOF;go_wp2_with fail;go_quiet (fail);go_wp2_with fail;go_ret;rw[HE2.o];exact⟨none,rfl,below_drewN HB.o _,rfl⟩
end
section
variable {w:World} {B0 M T V n:Nat} {s:Aj} {vps:Value}
theorem kO(h:MK w B0 M T V n s)(he:s.errs.length<=70000000000000)(hp:s.path.length<=1000000000)(hp0:s.path≠[])(hw:B0<=w.heap.size):Calls prog 185 #[.pointer (some ⟨M,0,none⟩),.pointer none,vps] w (AQ w B0 M T V n (.int .i64 2) s.fail):=by
 have HF:=Aa (OI h he hp hp0 hw);unfold AQ at HF⊢;clear h;go_enter func185,ntmps185;go_wp2_with fail;refine HF.o.mono ?_;rintro _ w1 ⟨rfl,h1,f1⟩;go_wp2_with fail;go_ret;exact⟨rfl,h1,f1⟩
theorem kS{g o how:Nat}{s':Aj}(hO:Calls prog 51 #[.pointer (some ⟨M,0,none⟩),.pointer (some ⟨g,o,none⟩),vps] w (AQ w B0 M T V n (.int .i64 how) s')):Calls prog 185 #[.pointer (some ⟨M,0,none⟩),.pointer (some ⟨g,o,none⟩),vps] w (AQ w B0 M T V n (.int .i64 how) s'):=by
 have HF:=Aa hO;unfold AQ at HF⊢;clear hO;go_enter func185,ntmps185;go_wp2_with fail;refine HF.o.mono ?_;rintro _ w1 ⟨rfl,h1,f1⟩;go_wp2_with fail;go_ret;exact⟨rfl,h1,f1⟩
end
end Go.Proofs.YtadneapobijejaaGreatDoor
