import Derived.Test.YtadneapobijejaaGreatDoorC23
import Derived.Test.YtadneapobijejaaGreatDoorC38
import Derived.BigQuiet
namespace Go.Proofs.YtadneapobijejaaGreatDoor
set_option maxHeartbeats 20000000
set_option maxRecDepth 100000
open Go.RowKit Tryz
section
variable {w:World} {S:Nat} {vR vO vI vU vN:Value} {LR:List (At×Value)} {LO:List AV} {LI:List (As×Value)} {LU:List (Au×Value)} {names:List vD}
theorem dV(h:SV w S vR vO vI vU vN LR LO LI LU names){V C Sb g o B0:Nat}{id:vD}{roles:List vD}{pp:List Nat}{parts:List Ai}{x:Aq}{v3:Value}{seen:List Bool}{rec:Ey}{typ:vD}(hv:DM w V id roles)(hC:w.heap[C]?=some (.cells #[.pointer (some ⟨S,0,none⟩),.pointer (some ⟨V,0,none⟩),v3] 126 (0,0)))(hx:ET w B0 pp g o x)(hs:w.heap[Sb]?=some (.cells (Bp seen).toArray 4 (0,0)))(hP:Bh w B0 pp 0 parts)(hn:pp.length=parts.length)
 (hrec:∀W,vE w W->∀p k ct,x.part=some p->pp[p]?=some k->Kn W C Sb (.pointer (some ⟨k,0,none⟩)) ct (rec p ct seen)):
 Calls prog 78 #[.pointer (some ⟨C,0,none⟩),.pointer (some ⟨g,o,none⟩),.string typ] w fun e w'=>e=.returned (.bool (De ⟨LO.map Prod.fst,LI.map Prod.fst,LU.map Prod.fst,roles⟩ parts rec x typ seen).1)/\w'.heap[Sb]?=some (.cells (Bp (De ⟨LO.map Prod.fst,LI.map Prod.fst,LU.map Prod.fst,roles⟩ parts rec x typ seen).2).toArray 4 (0,0))/\Ag Sb w w':=by
 have HX:=Aa hx;obtain⟨aA,cA,aC,cC,hc,hok⟩:=hx.ex;have x0:w.cell? ⟨g,o,none⟩=some (.int .i64 x.kind):=by simpa using hc 0 _ rfl
 have x4:w.cell? ⟨g,o+4,none⟩=some (.slice aC x.conds.length cC):=hc 4 _ rfl;have X5:=Aa (show w.cell? ⟨g,o+5,none⟩=some (AM pp x.part)from hc 5 _ rfl);have lg:=tR w _ x0;have lS:=Ab hs;have HS:=Aa hs;have hbd:=hok.p;have hcl:=hok.cl;have HCC:=Aa hok.c;have HQ:=Aa (De.eq_1 ⟨LO.map Prod.fst,LI.map Prod.fst,LU.map Prod.fst,roles⟩ parts rec x typ seen);generalize De ⟨LO.map Prod.fst,LI.map Prod.fst,LU.map Prod.fst,roles⟩ parts rec x typ seen=FF at*;simp only[]at HQ hbd hcl HCC;have HFG:=Aa (fun W (hW:vE w W)=>cX (h.below hW) (typ:=typ) (hv.below hW) ((hW.block _ (Ab hC)).trans hC) (hx.below hW) ((hW.block _ lS).trans hs) (fun W' hW'=>hrec W' (bT hW hW')));have HPG:=Aa (fun W (hW:vE w W) p k (e1:x.part=some p) (e2:pp[p]?=some k)=>(show Calls prog 122 #[.pointer (some ⟨C,0,none⟩),.pointer (some ⟨k,0,none⟩),.string typ] W fun e w'=>e=.returned (.bool (IT ⟨LO.map Prod.fst,LI.map Prod.fst,LU.map Prod.fst,roles⟩ parts rec p typ seen).1)/\w'.heap[Sb]?=some (.cells (Bp (IT ⟨LO.map Prod.fst,LI.map Prod.fst,LU.map Prod.fst,roles⟩ parts rec p typ seen).2).toArray 4 (0,0))/\Ag Sb W w' from by
  have hpl:p<parts.length:=by have:=hbd p e1;omega
  have hpi:=hP p _ (tN hpl);rw[Nat.zero_add]at hpi;obtain⟨a,cap,hkb,_,_⟩:=hpi.rd e2;have hpd:Ax parts p=parts[p]:=by simp[Ax,List.getD,tN hpl]
  have:=nP (h.below hW) (typ:=typ) (r:=fun T=>rec p T seen) ((hW.block _ (Ab hC)).trans hC) ((hW.block _ (Ab hkb)).trans hkb) ((hW.block _ lS).trans hs) (fun W' hW'=>hrec W' (bT hW hW') p k _ e1 e2);unfold IT;rw[hpd];exact this))
 generalize Ik ⟨LO.map Prod.fst,LI.map Prod.fst,LU.map Prod.fst,roles⟩ rec x typ seen=fg at*;clear h hv hC hx hs hrec hc hok hP;obtain⟨RES,vH⟩:∃RES,Hi (RES=x.conds.all (fun c=>Dm c.2 Jr true)):=⟨_,Aa rfl⟩;rw[<-vH.o]at HQ;go_enter func78,ntmps78;go_wp2_with fail;go_loopg [8,14] x.conds.length (fun m v8 v14 wr=>∃(t:Nat),v14=.int .i64 t/\t<=x.conds.length/\x.conds.length-t<=m/\vE w wr/\RES=(x.conds.drop t).all (fun c=>Dm c.2 Jr true))
 case atStart=>exact⟨0,rfl,tU _,tL _,tM _ _,vH.o⟩
 case round=>
  obtain⟨t,rfl,htl,htm,hb,hrel⟩:=hrel;have HM:=Aa hrel;have HB:=Aa hb;have x0':=Ah hb x0;by_cases hlt:t<x.conds.length
  ·have hcx:=tN hlt
   have hdr:x.conds.drop t=x.conds[t]::x.conds.drop (t+1):=uT hlt;generalize x.conds[t]=c at hcx hdr;obtain⟨gC,cap',hv,hcc⟩:=Cn HCC.o (fun _=>rfl) t c hcx;have ea:=(Value.slice.inj hv).1;subst ea;have y0:wr.cell? ⟨gC,t*4,none⟩=some (.int .i64 c.1):=Ah hb (by simpa using hcc 0 _ rfl);have y1:wr.cell? ⟨gC,t*4+1,none⟩=some (.int .i64 c.2.1):=Ah hb (hcc 1 _ rfl);have y2:wr.cell? ⟨gC,t*4+2,none⟩=some (.int .i64 c.2.2.1):=Ah hb (hcc 2 _ rfl);have y3:wr.cell? ⟨gC,t*4+3,none⟩=some (.string c.2.2.2):=Ah hb (hcc 3 _ rfl);have lC:=tR wr _ y0;rw[hdr,List.all_cons]at HM;have HFT:=Aa (fun W=>MU W c.2 Jr true);generalize Dm c.2 Jr true=fb at*;clear hcc hv hcx hdr hrel hb x0;go_wp2_with fail;refine(HFT.o _).mono ?_;rintro _ w1 ⟨rfl,b1⟩;have HB1:=Aa (bT (bA HB.o _) b1);clear b1;cases fb
   ·have HE:=Aa (show RES=false from HM.o)
    rw[HE.o]at HQ;have HF:=Aa (show FF=(false,seen)from HQ.o);go_wp2_with fail;go_ret;rw[HF.o];exact⟨rfl,(HB1.o.block _ lS).trans HS.o,Ag.of_below HB1.o⟩
   ·have HE:=Aa (show RES=(x.conds.drop (t+1)).all (fun c=>Dm c.2 Jr true)from HM.o)
    go_wp2_with fail;go_roundg (x.conds.length-(t+1))
    case measure=>omega
    case rel=>exact⟨t+1,by go_num,by omega,tL _,HB1.o,HE.o⟩
  ·have ht:t=x.conds.length:=by omega
   subst ht;have HE:=Aa (show RES=true from by rw[HM.o,List.drop_length];rfl);rw[HE.o,uC rfl]at HQ;have X5':=Aa (Ah hb X5.o);have HSR:=Aa ((hb.block _ lS).trans HS.o);have HFR:=Aa (HFG.o wr hb);have HPR:=Aa (HPG.o wr hb);have lg':=tV lg hb.size;clear hrel HM hb x0 X5 vH HE;by_cases hk:x.kind=0
   ·have T0:((x.kind:Int)==0)=true:=by rw[hk];rfl
    rw[uC hk]at HQ;have HF:=Aa (show FF=fg from HQ.o);go_wp2_with fail;refine HFR.o.mono ?_;rintro _ w1 ⟨rfl,h1,k1⟩;rw[<-HF.o]at h1⊢;go_wp2_with fail;go_ret;exact⟨rfl,h1,(Ag.of_below HB.o).trans k1⟩
   ·have T0:((x.kind:Int)==0)=false:=by simp;omega
    rw[uB hk]at HQ;cases hp:x.part with
    |none=>
     have x5:wr.cell? ⟨g,o+5,none⟩=some (.pointer none):=by have:=X5'.o;rw[hp]at this;exact this
     rw[hp]at HQ;have HF:=Aa (show FF=(false,seen)from HQ.o);clear hp HQ HPR HPG HFG HFR;go_wp2_with fail;go_ret;rw[HF.o];exact⟨rfl,HSR.o,Ag.of_below HB.o⟩
    |some p=>
     obtain⟨kp,hkp⟩:∃kp,pp[p]?=some kp:=⟨_,tN (hbd p hp)⟩;have x5:wr.cell? ⟨g,o+5,none⟩=some (.pointer (some ⟨kp,0,none⟩)):=by have:=X5'.o;rw[hp]at this;rw[this];simp[AM,hkp]
     rw[hp]at HQ;have HPC:=Aa (HPR.o p kp hp hkp);have HQ:=Aa (show FF=IT ⟨LO.map Prod.fst,LI.map Prod.fst,LU.map Prod.fst,roles⟩ parts rec p typ seen from HQ.o);generalize IT ⟨LO.map Prod.fst,LI.map Prod.fst,LU.map Prod.fst,roles⟩ parts rec p typ seen=pg at*;have HF:=Aa (show FF=pg from HQ.o);clear hp HQ HPR HPG HFG HFR hkp;go_wp2_with fail;refine HPC.o.mono ?_;rintro _ w1 ⟨rfl,h1,k1⟩;rw[<-HF.o]at h1⊢;have H1:=Aa h1;have K1:=Aa ((Ag.of_below HB.o).trans k1);clear h1 k1;go_wp2_with fail;go_ret;first|exact⟨rfl,H1.o,K1.o⟩|exact⟨Ak (by simp),H1.o,K1.o⟩
end
section
variable {S:Nat} {vR vO vI vU vN:Value} {LR:List (At×Value)} {LO:List AV} {LI:List (As×Value)} {LU:List (Au×Value)} {names:List vD} {V C Sb B0:Nat} {id:vD} {roles:List vD} {pp:List Nat} {parts:List Ai} {w0:World}
theorem YV(h:SV w0 S vR vO vI vU vN LR LO LI LU names)(hv:DM w0 V id roles)(hP:Bh w0 B0 pp 0 parts)(hn:pp.length=parts.length)(hSb:w0.heap.size<=Sb)(hne:¬C=Sb):∀(f:Nat) (w:World) (i k:Nat) (typ:vD) (seen:List Bool),vE w0 w->w.heap[C]?=some (.cells #[.pointer (some ⟨S,0,none⟩),.pointer (some ⟨V,0,none⟩),.slice (some ⟨Sb,0,none⟩) pp.length pp.length] 126 (0,0))->pp[i]?=some k->w.heap[Sb]?=some (.cells (Bp seen).toArray 4 (0,0))->seen.length=pp.length->uns seen+1<=f->
 Kn w C Sb (.pointer (some ⟨k,0,none⟩)) typ (BT ⟨LO.map Prod.fst,LI.map Prod.fst,LU.map Prod.fst,roles⟩ parts f i typ seen):=by
 intro f
 induction f with
 |zero=>intro w i k typ seen _ _ _ _ _ hz;omega
 |succ f ih=>
 intro w i k typ seen hb0 hC hk hS hst hz;have hil:i<pp.length:=Fu hk;obtain⟨P,hPi⟩:∃P,parts[i]?=some P:=⟨_,tN (by omega)⟩;have hpi:=hP i P hPi;rw[Nat.zero_add]at hpi;obtain⟨a,cap,wH,hsl,hsel⟩:=hpi.selAt hk;have hkb:=(hb0.block _ (Ab wH)).trans wH;clear wH;obtain⟨v,hv0⟩:∃v,seen[i]?=some v:=⟨_,tN (by omega)⟩;have hgd:seen.getD i false=v:=by simp[List.getD,hv0]
 have hpd:Ax parts i=P:=by simp[Ax,List.getD,hPi]
 unfold Kn;have HQ:=Aa (show BT ⟨LO.map Prod.fst,LI.map Prod.fst,LU.map Prod.fst,roles⟩ parts (f+1) i typ seen=(if seen.getD i false=true then(true,seen)else Fd ⟨LO.map Prod.fst,LI.map Prod.fst,LU.map Prod.fst,roles⟩ parts (BT ⟨LO.map Prod.fst,LI.map Prod.fst,LU.map Prod.fst,roles⟩ parts f) typ (Ax parts i).sels (seen.set i true))from by rw[BT]);rw[hgd,hpd]at HQ;generalize BT ⟨LO.map Prod.fst,LI.map Prod.fst,LU.map Prod.fst,roles⟩ parts (f+1) i typ seen=FF at*;have ck:=Ac hkb;have lk:=Ab hkb;have cC:=Ac hC;have lC:=Ab hC;have cS:w.cell? ⟨Sb,i,none⟩=some (.bool v):=(Ac hS i).trans (ML seen i v hv0);have fS:=Am hS;have lS:=Ab hS;have hkS:¬k=Sb:=DW hkb hS (by decide);have hiI:(i:Int)<pp.length:=by omega
 cases v
 ·rw[uB (by simp)]at HQ
  have HS1:=Aa (show(w.setCell ⟨Sb,i,none⟩ (.bool true)).heap[Sb]?=some (.cells (Bp (seen.set i true)).toArray 4 (0,0))from by rw[<-NY];exact AI hS i _);have hz1:=Kj seen i hv0;have hzf:uns (seen.set i true)+1<=f:=by omega
  have hlen1:(seen.set i true).length=pp.length:=by simp[hst]
  have HIH:=Aa ih;have HC0:=Aa hC;have HS0:=Aa hS;have HKB:=Aa hkb;have wU:=Aa hsel;have HB0:=Aa hb0;have HSV:=Aa h;have HVW:=Aa hv;have HPT:=Aa hP;have HN:=Aa hn;have HK1:=Aa (show Ag Sb w (w.setCell ⟨Sb,i,none⟩ (.bool true))from(Ag.refl Sb w).setCell i _);have HNE:=Aa hne;have hbz:=hb0.size;generalize hst1:seen.set i true=st1 at*;obtain⟨RES,vH⟩:∃RES,Hi (RES=Fd ⟨LO.map Prod.fst,LI.map Prod.fst,LU.map Prod.fst,roles⟩ parts (BT ⟨LO.map Prod.fst,LI.map Prod.fst,LU.map Prod.fst,roles⟩ parts f) typ P.sels st1):=⟨_,Aa rfl⟩;rw[<-vH.o]at HQ;clear hst1 hsel hpi hkb hPi hgd hpd hv0 hz hst hz1 ih hC hS hb0 h hv hP hn hne;go_enter func46,ntmps46;go_wp2_with fail;go_quiet (fail);go_wp2_with fail;go_cut [] (fun wc=>Ag Sb w wc/\wc.heap[Sb]?=some (.cells (Bp st1).toArray 4 (0,0)))
  case first=>
   go_region;all_goals(
    (try go_wp2_with fail)
    go_meet;exact⟨((Ag.of_below (by first|exact below_drewN (tM _ _) _|exact(below_drewN (tM _ _) _).drew|exact(tM _ _).drew|exact tM _ _)).setCell i _),HS1.o⟩)
  case rest=>
  obtain⟨hk1,hS1⟩:=hcut;have HKW1:=Aa hk1;have ck1:=Ac (hk1.at HKB.o hkS);have lk1:=tV lk hk1.size;have HSW1:=Aa hS1;clear hk1 hS1 cC ck cS fS;go_wp2_with fail;go_loopg [7,32] P.sels.length (fun m v7 v32 wr=>∃(t:Nat) (st':List Bool),v32=.int .i64 t/\t<=P.sels.length/\P.sels.length-t<=m/\Ag Sb w wr/\wr.heap[Sb]?=some (.cells (Bp st').toArray 4 (0,0))/\st'.length=pp.length/\uns st'<=uns st1/\RES=Fd ⟨LO.map Prod.fst,LI.map Prod.fst,LU.map Prod.fst,roles⟩ parts (BT ⟨LO.map Prod.fst,LI.map Prod.fst,LU.map Prod.fst,roles⟩ parts f) typ (P.sels.drop t) st')
  case atStart=>exact⟨0,st1,rfl,tU _,tL _,HKW1.o,HSW1.o,hlen1,tL _,vH.o⟩
  case round=>
   obtain⟨t,st',rfl,htl,htm,hkw,hS',hlen',hun',hrel⟩:=hrel;have HM:=Aa hrel;have HKW:=Aa hkw;have HS':=Aa hS';have lS':=Ab hS';have hbw:vE w0 wr:=HB0.o.trans (hkw.below hSb hbz);have yC:=hkw.at HKB.o hkS;have ck':=Ac yC;have lk':=Ab yC;by_cases hlt:t<P.sels.length
   ·have hx:=tN hlt
    have hdr:P.sels.drop t=P.sels[t]::P.sels.drop (t+1):=uT hlt;generalize P.sels[t]=x at hx hdr;obtain⟨g,hag,hgl,hsa⟩:=wU.o t x hx;subst hag;have hsel':ET wr B0 pp g (t*6) x:=hsa.below hbw;have HG:=Aa (dV (typ:=typ) (HSV.o.below hbw) (HVW.o.below hbw) (hkw.at HC0.o HNE.o) hsel' hS' (HPT.o.typ' (AA.below hbw)) HN.o (rec:=BT ⟨LO.map Prod.fst,LI.map Prod.fst,LU.map Prod.fst,roles⟩ parts f) (fun W hW p k' ct _ hk'=>HIH.o W p k' ct st' (hbw.trans (hW.mono hbw.size)) ((hW.block _ (Ab (hkw.at HC0.o HNE.o))).trans (hkw.at HC0.o HNE.o)) hk' ((hW.block _ lS').trans hS') hlen' (by omega)));have hgl2:=QL (Qd ⟨LO.map Prod.fst,LI.map Prod.fst,LU.map Prod.fst,roles⟩ parts f) ⟨LO.map Prod.fst,LI.map Prod.fst,LU.map Prod.fst,roles⟩ parts x typ st';rw[hdr]at HM;have HE:=Aa (show RES=if (De ⟨LO.map Prod.fst,LI.map Prod.fst,LU.map Prod.fst,roles⟩ parts (BT ⟨LO.map Prod.fst,LI.map Prod.fst,LU.map Prod.fst,roles⟩ parts f) x typ st').1=true then Fd ⟨LO.map Prod.fst,LI.map Prod.fst,LU.map Prod.fst,roles⟩ parts (BT ⟨LO.map Prod.fst,LI.map Prod.fst,LU.map Prod.fst,roles⟩ parts f) typ (P.sels.drop (t+1)) (De ⟨LO.map Prod.fst,LI.map Prod.fst,LU.map Prod.fst,roles⟩ parts (BT ⟨LO.map Prod.fst,LI.map Prod.fst,LU.map Prod.fst,roles⟩ parts f) x typ st').2 else(false,(De ⟨LO.map Prod.fst,LI.map Prod.fst,LU.map Prod.fst,roles⟩ parts (BT ⟨LO.map Prod.fst,LI.map Prod.fst,LU.map Prod.fst,roles⟩ parts f) x typ st').2)from by rw[HM.o,Fd]);generalize De ⟨LO.map Prod.fst,LI.map Prod.fst,LU.map Prod.fst,roles⟩ parts (BT ⟨LO.map Prod.fst,LI.map Prod.fst,LU.map Prod.fst,roles⟩ parts f) x typ st'=r at*;obtain⟨rb,st2⟩:=r;simp only[]at HG hgl2 HE;have htI:(t:Int)<P.sels.length:=by omega
    clear hx hdr HM hrel hS' hkw hbw yC hsel' hsa;go_wp2_with fail;refine HG.o.mono ?_;rintro _ w5 ⟨rfl,h5,k5⟩;have HS5:=Aa h5;have HK5:=Aa (HKW.o.trans k5);clear h5 k5 HG;cases rb
    ·have HE2:=Aa (show RES=(false,st2)from HE.o)
     rw[HE2.o]at HQ;have HQ2:=Aa (show FF=(false,st2)from HQ.o);go_wp2_with fail;go_ret;rw[HQ2.o];exact⟨rfl,HS5.o,HK5.o⟩
    ·have HE2:=Aa (show RES=Fd ⟨LO.map Prod.fst,LI.map Prod.fst,LU.map Prod.fst,roles⟩ parts (BT ⟨LO.map Prod.fst,LI.map Prod.fst,LU.map Prod.fst,roles⟩ parts f) typ (P.sels.drop (t+1)) st2 from HE.o)
     go_wp2_with fail;go_roundg (P.sels.length-(t+1))
     case measure=>omega
     case rel=>exact⟨t+1,st2,by go_num,by omega,tL _,HK5.o,HS5.o,by omega,by omega,HE2.o⟩
   ·have ht:t=P.sels.length:=by omega
    subst ht;have HE:=Aa (show RES=(true,st')from by rw[HM.o,List.drop_length];rfl);rw[HE.o]at HQ;have HQ2:=Aa (show FF=(true,st')from HQ.o);clear hS' hkw yC HM hrel hbw;go_wp2_with fail;go_ret;rw[HQ2.o];exact⟨rfl,HS'.o,HKW.o⟩
 ·rw[uC rfl]at HQ
  have HS0:=Aa hS;have HQ2:=Aa (show FF=(true,seen)from HQ.o);clear hS hsel hpi hkb;go_enter func46,ntmps46;go_wp2_with fail;go_quiet (fail);go_wp2_with fail;go_ret;rw[HQ2.o];exact⟨rfl,HS0.o,Ag.of_below (below_drewN (tM _ _) _)⟩
end
theorem euA:prog.underlying 184=some (.struct (prog.fieldsOf 184)):=by kernel_rfl
theorem shA:prog.stoodInHeld 184=false:=by kernel_rfl
theorem egA:prog.eqGuardType prog.depth 184=false:=by kernel_rfl
theorem fsA:(prog.fieldsOf 184).toList.map (fun f=>(f.name,f.type,f.offset))=[("Name",9,0),("Value",116,1)]:=by kernel_rfl
theorem WC(n:vD)(a b:Int)(c:vD)(w:World):(part 116 #[.string n,.int .i64 a,.int .i64 b,.string c] 1).run prog w=.ok (.agg #[.int .i64 a,.int .i64 b,.string c]) w:=by kernel_rfl
theorem bJ(w:World)(d:Nat)(a0 a1 b0 b1:Int)(a2 b2:vD):
 (Op.equalIn (d+2) 116 (.agg #[.int .i64 a0,.int .i64 a1,.string a2]) (.agg #[.int .i64 b0,.int .i64 b1,.string b2])).run prog w=.ok ((a0==b0)&&((a1==b1)&&(a2.toList==b2.toList))) w:=by
 rw[run_equalIn_struct w (d+1) 116 _ _ eu168 sh168];have h:=fs168;generalize (prog.fieldsOf 116).toList=l at h;rcases l with _|⟨f0,_|⟨f1,_|⟨f2,_|⟨f3,l⟩⟩⟩⟩;all_goals first
  |(exfalso;have:=congrArg List.length h;simp at this;done)
  |skip
 ·simp only[List.map_cons,List.map_nil,List.cons.injEq,Prod.mk.injEq,and_true]at h
  obtain⟨⟨n0,t0,o0⟩,⟨n1,t1,o1⟩,⟨n2,t2,o2⟩⟩:=h;rw[Og w d _ _ _ f0 _ a0 b0 (by rw[n0];decide) t0 eu166 pk166 (by rw[o0];rfl) (by rw[o0];rfl)];rw[Og w d 3 _ _ f1 _ a1 b1 (by rw[n1];decide) t1 underlying3 pk3 (by rw[o1];rfl) (by rw[o1];rfl)];rw[Qu w d _ _ f2 _ a2 b2 (by rw[n2];decide) t2 (by rw[o2];rfl) (by rw[o2];rfl)];rw[TS];cases (a0==b0)<;>cases (a1==b1)<;>cases (a2.toList==b2.toList)<;>rfl
def Qt(x y:Eh):Bool:=(x.1.toList==y.1.toList)&&(((x.2.1:Int)==(y.2.1:Int))&&((x.2.2.1==y.2.2.1)&&(x.2.2.2.toList==y.2.2.2.toList)))
theorem bG(x y:Eh):Qt x y=decide (x=y):=by
 obtain⟨n,k,m,t⟩:=x;obtain⟨n',k',m',t'⟩:=y;unfold Qt;rw[Bool.eq_iff_iff];simp only[uL,Cr,uF,beq_iff_eq,Prod.mk.injEq];constructor
 ·rintro⟨h1,h2,h3,h4⟩;exact⟨h1,by omega,h3,h4⟩
 ·rintro⟨h1,h2,h3,h4⟩;exact⟨h1,by omega,h3,h4⟩
theorem bI(w:World)(n n':vD)(a0 a1 b0 b1:Int)(a2 b2:vD):
 (Op.equalIn 10000 184 (.agg #[.string n,.int .i64 a0,.int .i64 a1,.string a2]) (.agg #[.string n',.int .i64 b0,.int .i64 b1,.string b2])).run prog w=.ok ((n.toList==n'.toList)&&((a0==b0)&&((a1==b1)&&(a2.toList==b2.toList)))) w:=by
 rw[run_equalIn_struct w 9999 184 _ _ euA shA];have h:=fsA;generalize (prog.fieldsOf 184).toList=l at h;rcases l with _|⟨f0,_|⟨f1,_|⟨f2,l⟩⟩⟩;all_goals first
  |(exfalso;have:=congrArg List.length h;simp at this;done)
  |skip
 ·simp only[List.map_cons,List.map_nil,List.cons.injEq,Prod.mk.injEq,and_true]at h
  obtain⟨⟨n0,t0,o0⟩,⟨n1,t1,o1⟩⟩:=h;rw[Qu w 9998 _ _ f0 _ n n' (by rw[n0];decide) t0 (by rw[o0];rfl) (by rw[o0];rfl)];cases (n.toList==n'.toList)
  ·rfl
  ·rw[uC rfl,Op.eqFields,uC (by rw[n1];decide),t1,o1]
   simp only[Sem.run_bind];rw[WC,Result.andThen_ok,WC,Result.andThen_ok,bJ w 9997,Result.andThen_ok];cases ((a0==b0)&&((a1==b1)&&(a2.toList==b2.toList)))<;>simp[Op.eqFields]
section
variable {w:World} {B g o g' o':Nat} {xs ys:List Eh} {vx vy:Value}
theorem bL(hx:w.ownsRow B 184 4 vx xs.length (xs.flatMap aL))(hy:w.ownsRow B 184 4 vy ys.length (ys.flatMap aL))(hxl:xs.length<=802):
 Calls prog 178 #[vx,vy] w fun e w'=>e=.returned (.bool (decide (xs=ys)))/\vE w w':=by
 obtain⟨ax,cx,rfl⟩:=An hx;obtain⟨ay,cy,rfl⟩:=An hy;have hq:=bI;have he:=egA;have HX:=Aa hx;have HY:=Aa hy;obtain⟨RES,vH⟩:∃RES,Hi (RES=decide (xs=ys)):=⟨_,Aa rfl⟩;rw[<-vH.o];clear hx hy;by_cases hl:xs.length=ys.length
 ·have HL:=Aa hl
  have T0:((xs.length:Int)!=(ys.length:Int))=false:=by simp;omega
  clear hl;go_enter func178,ntmps178;go_wp2_with fail;go_loopg [5,13] xs.length (fun m v5 v13 wr=>∃t:Nat,v13=.int .i64 t/\t<=xs.length/\xs.length-t<=m/\vE w wr/\RES=decide (xs.drop t=ys.drop t))
  case atStart=>exact⟨0,rfl,tU _,tL _,tM _ _,vH.o⟩
  case round=>
   obtain⟨t,rfl,htl,htm,hb,hrel⟩:=hrel;have HM:=Aa hrel;have HB:=Aa hb;by_cases hlt:t<xs.length
   ·have hlt':t<ys.length:=by have:=HL.o;omega
    have hx:=tN hlt;have hdr:xs.drop t=xs[t]::xs.drop (t+1):=uT hlt;have hy:=tN hlt';have hdr':ys.drop t=ys[t]::ys.drop (t+1):=uT hlt';generalize xs[t]=x at hx hdr;generalize ys[t]=y at hy hdr';obtain⟨gx,cap,hv,hc⟩:=Cn HX.o (fun _=>rfl) t x hx;have ea:=(Value.slice.inj hv).1;obtain⟨gy,cap',hv',hc'⟩:=Cn HY.o (fun _=>rfl) t y hy;have ea':=(Value.slice.inj hv').1;subst ea ea';have x0:wr.cell? ⟨gx,t*4,none⟩=some (.string x.1):=Ah hb (by simpa using hc 0 _ rfl);have x1:wr.cell? ⟨gx,t*4+1,none⟩=some (.int .i64 x.2.1):=Ah hb (hc 1 _ rfl);have x2:wr.cell? ⟨gx,t*4+2,none⟩=some (.int .i64 x.2.2.1):=Ah hb (hc 2 _ rfl);have x3:wr.cell? ⟨gx,t*4+3,none⟩=some (.string x.2.2.2):=Ah hb (hc 3 _ rfl);have y0:wr.cell? ⟨gy,t*4,none⟩=some (.string y.1):=Ah hb (by simpa using hc' 0 _ rfl);have y1:wr.cell? ⟨gy,t*4+1,none⟩=some (.int .i64 y.2.1):=Ah hb (hc' 1 _ rfl);have y2:wr.cell? ⟨gy,t*4+2,none⟩=some (.int .i64 y.2.2.1):=Ah hb (hc' 2 _ rfl);have y3:wr.cell? ⟨gy,t*4+3,none⟩=some (.string y.2.2.2):=Ah hb (hc' 3 _ rfl);have lx:=tR wr _ x0;have ly:=tR wr _ y0;have htI:(t:Int)<xs.length:=by omega
    have htI':(t:Int)<ys.length:=by omega
    obtain⟨eb,HEB⟩:∃eb,Hi (Qt x y=eb):=⟨_,Aa rfl⟩;have HE:=Aa (show RES=(eb&&decide (xs.drop (t+1)=ys.drop (t+1)))from by
     rw[HM.o,hdr,hdr',<-HEB.o,bG,Bool.eq_iff_iff];simp)
    have hqq:=Aa (show(x.1.toList==y.1.toList&&((x.2.1:Int)==(y.2.1:Int)&&(x.2.2.1==y.2.2.1&&x.2.2.2.toList==y.2.2.2.toList)))=eb from HEB.o);clear hc hc' hv hv' hx hy hdr hdr' hrel hb HM HEB;go_wp2_with fail;go_cut [24] (fun v24 wc=>v24=.bool (!eb)/\vE w wc)
    case first=>
     go_region;all_goals(
      (try go_wp2_with fail)
      go_meet;refine⟨?_,by first|exact HB.o.drew|exact HB.o⟩;rw[<-hqq.o,Bool.not_and,Bool.not_and,Bool.not_and])
    case rest=>
    obtain⟨rfl,hb2⟩:=hcut;have HB2:=Aa hb2;clear hb2 x0 x1 x2 x3 y0 y1 y2 y3 lx ly;cases eb
    ·have HE2:=Aa (show RES=false from HE.o)
     go_wp2_with fail;go_ret;rw[HE2.o];exact⟨rfl,HB2.o⟩
    ·have HE2:=Aa (show RES=decide (xs.drop (t+1)=ys.drop (t+1))from HE.o)
     go_wp2_with fail;go_roundg (xs.length-(t+1))
     case measure=>omega
     case rel=>exact⟨t+1,by go_num,by omega,tL _,HB2.o,HE2.o⟩
   ·have ht:t=xs.length:=by omega
    subst ht;have HE:=Aa (show RES=true from by rw[HM.o,List.drop_length,HL.o,List.drop_length];rfl);clear hb hrel HM;go_wp2_with fail;go_ret;rw[HE.o];exact⟨rfl,HB.o⟩
 ·have T0:((xs.length:Int)!=(ys.length:Int))=true:=by simp;omega
  have HE:=Aa (show RES=false from by rw[vH.o];exact tT (fun e=>hl (by rw[e])));clear hl;go_enter func178,ntmps178;go_wp2_with fail;go_ret;rw[HE.o];exact⟨rfl,tM _ _⟩
theorem Zm{B0:Nat}{pp:List Nat}{x y:Aq}(hx:ET w B0 pp g o x)(hy:ET w B0 pp g' o' y):
 Calls prog 125 #[.pointer (some ⟨g,o,none⟩),.pointer (some ⟨g',o',none⟩)] w fun e w'=>e=.returned (.bool (FG x y))/\vE w w':=by
 obtain⟨aA,cA,aC,cC,hc,hok⟩:=hx.ex;obtain⟨aA',cA',aC',cC',hc',hok'⟩:=hy.ex;have x2:w.cell? ⟨g,o+2,none⟩=some (.string x.name):=hc 2 _ rfl;have x3:w.cell? ⟨g,o+3,none⟩=some (.slice aA x.args.length cA):=hc 3 _ rfl;have y2:w.cell? ⟨g',o'+2,none⟩=some (.string y.name):=hc' 2 _ rfl;have y3:w.cell? ⟨g',o'+3,none⟩=some (.slice aA' y.args.length cA'):=hc' 3 _ rfl;have lg:=tR w _ x2;have lg':=tR w _ y2;have HE:=Aa (fun W (hW:vE w W)=>bL (AT hok.a hW) (AT hok'.a hW) hok.al);have HQ:=Aa (show FG x y=((x.name.toList==y.name.toList)&&decide (x.args=y.args))from by unfold FG;rw[Cr]);generalize FG x y=FF at*;simp only[]at HE;generalize decide (x.args=y.args)=ab at*;have HS:=Aa (fun V (hV:vE w V)=>uV hV (uV (Ah hV x2) (uV (Ah hV x3) (uV (Ah hV y2) (uV (Ah hV y3) (uV (tV lg hV.size) (tV lg' hV.size)))))));clear hc hc' hok hok' hx hy;cases nb:(x.name.toList==y.name.toList)
 ·have HF:=Aa (show FF=false from by rw[HQ.o,nb];rfl)
  go_enter func125,ntmps125;go_wp2_with fail;go_quiet (fail);go_wp2_with fail;go_ret;rw[HF.o];exact⟨rfl,below_drewN (tM _ _) _⟩
 ·have HF:=Aa (show FF=ab from by rw[HQ.o,nb];rfl)
  go_enter func125,ntmps125;go_wp2_with fail;go_region_held3 (fun V=>vE w V/\V.cell? ⟨g,o+2,none⟩=some (.string x.name)/\V.cell? ⟨g,o+3,none⟩=some (.slice aA x.args.length cA)/\V.cell? ⟨g',o'+2,none⟩=some (.string y.name)/\V.cell? ⟨g',o'+3,none⟩=some (.slice aA' y.args.length cA')/\g<V.heap.size/\g'<V.heap.size)
   (first|exact HS.o _ (tM _ _).drew|exact HS.o _ (bT bh b2))
   (first|(go_at_call 178;obtain⟨bh, -⟩:= ‹vE w _/\_›;refine(HE.o _ bh).mono ?_;rintro _ w2 ⟨rfl,b2⟩))
  all_goals(obtain⟨bh, -⟩:= ‹vE w _/\_›;(try go_wp2_with fail);go_ret;rw[HF.o];exact⟨rfl,bh⟩)
end
section
variable {w w0:World} {B0 B1 G Mb Lb:Nat} {pp:List Nat} {parts:List Ai} {g:AY} {vo:Value}
theorem jT(hP:Bh w0 B0 pp 0 parts)(hn:pp.length=parts.length)(hpi:BM parts)(hn2:pp.length<=2000)(hB1:w0.heap.size<=B1)(hb0:vE w0 w)(hBw:B1<=w.heap.size)(h:AG w B1 G Mb Lb pp parts g vo){c:Nat}(hg:BB parts.length c g)(hc:c<=5000000){i j ki kj:Nat}(hi:pp[i]?=some ki)(hj:pp[j]?=some kj):
 Calls prog 80 #[.pointer (some ⟨G,0,none⟩),.agg #[.pointer (some ⟨ki,0,none⟩),.pointer (some ⟨kj,0,none⟩)]] w fun e w'=>e=.returned (.bool (GI parts (i,j) g).1)/\∃vo',AG w' B1 G Mb Lb pp parts (GI parts (i,j) g).2 vo'/\AF G Mb Lb w vo w' vo':=by
 have hil:i<parts.length:=by have:=Fu hi;omega
 have hjl:j<parts.length:=by have:=Fu hj;omega
 obtain⟨P,hPi⟩:∃P,parts[i]?=some P:=⟨_,tN hil⟩;obtain⟨Q,hQj⟩:∃Q,parts[j]?=some Q:=⟨_,tN hjl⟩;have hpa:=hP i P hPi;have hqa:=hP j Q hQj;rw[Nat.zero_add]at hpa hqa;obtain⟨aP,cP,hki,hPl,hPs⟩:=hpa.selAt hi;obtain⟨aQ,cQ,hkj,hQl,hQs⟩:=hqa.selAt hj;have hpd:Ax parts i=P:=by simp[Ax,List.getD,hPi]
 have hqd:Ax parts j=Q:=by simp[Ax,List.getD,hQj]
 have HQ:=Aa (show GI parts (i,j) g=GH parts Q.sels P.sels g from by unfold GI;rw[hpd,hqd]);generalize GI parts (i,j) g=FF at*;have HJ:=Aa (fun(W:World) (hW:vE w0 W) (hBW:B1<=W.heap.size) (g':AY) (v':Value) (hA:AG W B1 G Mb Lb pp parts g' v') (hg':BB parts.length c g') (a b ka kb:Nat) (ha:pp[a]?=some ka) (hb:pp[b]?=some kb)=>UF hP hn hpi hn2 hB1 hW hBW hA hg' hc ha hb);have HPI:=Aa (fun x (hx:x∈P.sels) a (e:x.part=some a)=>(show a<parts.length from hpi.d i x (by rw[hpd];exact hx) a e));have HQI:=Aa (fun x (hx:x∈Q.sels) a (e:x.part=some a)=>(show a<parts.length from hpi.d j x (by rw[hqd];exact hx) a e));have HPIN:=Aa hpi;have HN:=Aa hn;have H0:=Aa h;have HG0:=Aa hg;have HB0:=Aa hb0;have HPS:=Aa hPs;have HQS:=Aa hQs;have HKI:=Aa hki;have HKJ:=Aa hkj;have HBA:=Aa (show vE w (w.alloc (.cells #[.pointer (some ⟨ki,0,none⟩),.pointer (some ⟨kj,0,none⟩)] 195))from bA (tM _ _) _);have HNB:=Aa (tS w (.cells #[.pointer (some ⟨ki,0,none⟩),.pointer (some ⟨kj,0,none⟩)] 195));have HA1:=Aa (h.below HBA.o);have HF1:=Aa (AF.of_below (G:=G) (Mb:=Mb) (Lb:=Lb) (vo:=vo) HBA.o);have HNBX:=Aa (fun(X Y:World) (vx vy:Value) (gx:AY) (hA:AG X B1 G Mb Lb pp parts gx vx) (hl:∀k,vx.ownBlock=some k->vo.ownBlock=some k\/(w.alloc (.cells #[.pointer (some ⟨ki,0,none⟩),.pointer (some ⟨kj,0,none⟩)] 195)).heap.size<=k) (hf:AF G Mb Lb X vx Y vy) (hx:X.heap[w.heap.size]?=some (.cells #[.pointer (some ⟨ki,0,none⟩),.pointer (some ⟨kj,0,none⟩)] 195 (0,0)))=>(hf.blk w.heap.size (Ab hx) (DW hx hA.b (by decide)) (DW hx hA.m (by decide)) (fun e=>by obtain⟨cs,q,_⟩:=hA.l;exact DW hx q (by decide) e) (fun e=>by
  rcases hl _ e with q|q
  ·have:=(h.o.lt _ q).2;omega
  ·simp at q;omega)).trans hx)
 have hBW1:B1<=(w.alloc (.cells #[.pointer (some ⟨ki,0,none⟩),.pointer (some ⟨kj,0,none⟩)] 195)).heap.size:=tQ hBw HBA.o.size;have hki1:ki<w0.heap.size:=Ab hki;have hkj1:kj<w0.heap.size:=Ab hkj;clear hP hn hpi hb0 h hg hi hj hil hjl hpa hqa hki hkj hPs hQs hpd hqd hPi hQj;go_enter func80,ntmps80;go_upto_region 1 with fail;generalize w.alloc (.cells #[.pointer (some ⟨ki,0,none⟩),.pointer (some ⟨kj,0,none⟩)] 195)=W1 at*;have c1:=Ac HNB.o;have l1:=Ab HNB.o;have hb1:=HB0.o.trans (HBA.o.mono HB0.o.size);have hkb1:=(hb1.block _ hki1).trans HKI.o;have ck1:=Ac hkb1;have lk1:=Ab hkb1;clear hb1 hkb1;go_wp2_with fail;go_loopg [5,6,7,8,15,24] P.sels.length (fun m v5 v6 v7 v8 v15 v24 wr=>∃(t:Nat) (g':AY) (vo':Value),v15=.int .i64 t/\t<=P.sels.length/\P.sels.length-t<=m/\AG wr B1 G Mb Lb pp parts g' vo'/\AF G Mb Lb W1 vo wr vo'/\BB parts.length c g'/\wr.heap[w.heap.size]?=some (.cells #[.pointer (some ⟨ki,0,none⟩),.pointer (some ⟨kj,0,none⟩)] 195 (0,0))/\FF=GH parts Q.sels (P.sels.drop t) g')
 case atStart=>exact⟨0,g,vo,rfl,tU _,tL _,HA1.o,AF.refl _ _ _ _ _,HG0.o,HNB.o,HQ.o⟩
 case round=>
  obtain⟨t,g',vo',rfl,htl,htm,hA,hF,hM,hnb,hrel⟩:=hrel;have HM:=Aa hrel;have HA:=Aa hA;have HF:=Aa hF;have HG:=Aa hM;have HNR:=Aa hnb;have hbr:vE w0 wr:=(HB0.o.trans (HBA.o.mono HB0.o.size)).trans ((hF.below HA1.o).mono hB1);have cn:=Ac hnb;have ln:=Ab hnb;have hkr:=(hbr.block _ hkj1).trans HKJ.o;have ckj:=Ac hkr;have lkj:=Ab hkr;by_cases hlt:t<P.sels.length
  ·have hx:=tN hlt
   have hdr:P.sels.drop t=P.sels[t]::P.sels.drop (t+1):=uT hlt;have hmem:P.sels[t]∈P.sels:=List.getElem_mem hlt;generalize P.sels[t]=x at hx hdr hmem;obtain⟨gP,eP,lgP,hsx⟩:=HPS.o t x hx;subst eP;have HSX:=Aa hsx;have HXI:=Aa (HPI.o x hmem);rw[hdr]at HM;obtain⟨RES,vH⟩:∃RES,Hi (RES=Dx parts x Q.sels g'):=⟨_,Aa rfl⟩;have HE:=Aa (show FF=if RES.1=true then GH parts Q.sels (P.sels.drop (t+1)) RES.2 else(false,RES.2)from by rw[HM.o,GH,vH.o]);clear hA hF hM hnb hx hdr hmem HM hrel hkr hbr hsx;go_wp2_with fail;obtain⟨wo,hwo⟩:∃wo:World,wo=wr:=⟨_,rfl⟩;clear hwo;go_loopg [6,7,8,24] Q.sels.length (fun m v6 v7 v8 v24 wr=>∃(t2:Nat) (g2:AY) (vo2:Value),v24=.int .i64 t2/\t2<=Q.sels.length/\Q.sels.length-t2<=m/\AG wr B1 G Mb Lb pp parts g2 vo2/\AF G Mb Lb W1 vo wr vo2/\BB parts.length c g2/\wr.heap[w.heap.size]?=some (.cells #[.pointer (some ⟨ki,0,none⟩),.pointer (some ⟨kj,0,none⟩)] 195 (0,0))/\RES=Dx parts x (Q.sels.drop t2) g2)
   case atStart=>exact⟨0,g',vo',rfl,tU _,tL _,HA.o,HF.o,HG.o,HNR.o,vH.o⟩
   case round=>
    obtain⟨t2,g2,vo2,rfl,ht2l,ht2m,hA3,hF3,hM3,hnb3,wQ⟩:=hrel;have HM3:=Aa wQ;have HA3:=Aa hA3;have HF3:=Aa hF3;have HG3:=Aa hM3;have HNR3:=Aa hnb3;have xE:vE w0 wr:=(HB0.o.trans (HBA.o.mono HB0.o.size)).trans ((hF3.below HA1.o).mono hB1);have HBR3:=Aa xE;have hBr3:B1<=wr.heap.size:=tQ hBW1 hF3.size;have cn3:=Ac hnb3;have ln3:=Ab hnb3;have hki3:=(xE.block _ hki1).trans HKI.o;have cki3:=Ac hki3;have lki3:=Ab hki3;have hkj3:=(xE.block _ hkj1).trans HKJ.o;have ckj3:=Ac hkj3;have lkj3:=Ab hkj3;by_cases hlt2:t2<Q.sels.length
    ·have hy:=tN hlt2
     have yL:Q.sels.drop t2=Q.sels[t2]::Q.sels.drop (t2+1):=uT hlt2;have wN:Q.sels[t2]∈Q.sels:=List.getElem_mem hlt2;generalize Q.sels[t2]=y at hy yL wN;obtain⟨gQ,eQ,lgQ,hsy⟩:=HQS.o t2 y hy;have HSY:=Aa hsy;have HYI:=Aa (HQI.o y wN);rw[yL]at HM3;have HES:=Aa (fun(hc:¬(x.kind=0/\y.kind=0/\x.key=y.key))=>(show RES=Dx parts x (Q.sels.drop (t2+1)) g2 from by rw[HM3.o,Dx,uB hc]));have HEA:=Aa (fun(hc:x.kind=0/\y.kind=0/\x.key=y.key) (ha:FG x y=false)=>(show RES=(false,g2)from by rw[HM3.o,Dx,uC hc,uB (by rw[ha];simp)]));have HEP:=Aa (fun(hc:x.kind=0/\y.kind=0/\x.key=y.key) (ha:FG x y=true) a b (e1:x.part=some a) (e2:y.part=some b)=>(show RES=Dx parts x (Q.sels.drop (t2+1)) (GF parts a b g2)from by rw[HM3.o,Dx,uC hc,uC ha,e1,e2]));have HEN:=Aa (fun(hc:x.kind=0/\y.kind=0/\x.key=y.key) (ha:FG x y=true) (e:x.part=none\/y.part=none)=>(show RES=Dx parts x (Q.sels.drop (t2+1)) g2 from by
      rw[HM3.o,Dx,uC hc,uC ha];rcases e with e|e
      ·rw[e]
      ·rw[e];cases x.part<;>rfl))
     subst eQ;obtain⟨aA,cA,aC,cC,hcx,hokx⟩:=(HSX.o.below xE).ex;obtain⟨aA',cA',aC',cC',hcy,hoky⟩:=(HSY.o.below xE).ex;have x0:wr.cell? ⟨gP,t*6,none⟩=some (.int .i64 x.kind):=by simpa using hcx 0 _ rfl
     have x1:wr.cell? ⟨gP,t*6+1,none⟩=some (.string x.key):=hcx 1 _ rfl;have X5:=Aa (show wr.cell? ⟨gP,t*6+5,none⟩=some (AM pp x.part)from hcx 5 _ rfl);have y0:wr.cell? ⟨gQ,t2*6,none⟩=some (.int .i64 y.kind):=by simpa using hcy 0 _ rfl
     have y1:wr.cell? ⟨gQ,t2*6+1,none⟩=some (.string y.key):=hcy 1 _ rfl;have Y5:=Aa (show wr.cell? ⟨gQ,t2*6+5,none⟩=some (AM pp y.part)from hcy 5 _ rfl);have lx:=tR wr _ x0;have ly:=tR wr _ y0;have htI:(t:Int)<P.sels.length:=by omega
     have ht2I:(t2:Int)<Q.sels.length:=by omega
     clear hA3 hF3 hM3 hnb3 xE hy yL wN HM3 wQ hki3 hkj3 hsy hcx hokx hcy hoky;by_cases hcond:x.kind=0/\y.kind=0/\x.key=y.key
     ·have q1:((x.kind:Int)!=0)=false:=by rw[hcond.1];rfl
      have q2:((y.kind:Int)!=0)=false:=by rw[hcond.2.1];rfl
      have q3:(x.key.toList==y.key.toList)=true:=by rw[Cr];exact uH hcond.2.2
      have HEA:=Aa (HEA.o hcond);have HEP:=Aa (HEP.o hcond);have HEN:=Aa (HEN.o hcond);have HAS:=Aa (fun W (hW:vE wr W)=>Zm ((HSX.o.below HBR3.o).below hW) ((HSY.o.below HBR3.o).below hW));generalize FG x y=ab at*;clear hcond HES;go_wp2_with fail;go_quiet (fail);obtain⟨n1,hn1⟩:∃n1,n1=nq:=⟨_,rfl⟩;rw[<-hn1];clear hn1 nq;go_wp2_with fail;go_quiet (fail);go_wp2_with fail;refine(HAS.o _ (below_drewN (tM wr.heap.size wr) (n1+nq))).mono ?_;rintro _ w5 ⟨rfl,b5⟩;have hb5:=(below_drewN (tM wr.heap.size wr) (n1+nq)).trans b5;have HA5:=Aa (HA3.o.below hb5);have HF5:=Aa (HF3.o.trans (AF.of_below hb5));have HNR5:=Aa ((hb5.block _ ln3).trans HNR3.o);have X5':=Aa (Ah hb5 X5.o);have Y5':=Aa (Ah hb5 Y5.o);have lx5:=tV lx hb5.size;have ly5:=tV ly hb5.size;have HBR5:=Aa (HBR3.o.trans (hb5.mono HBR3.o.size));have hBr5:B1<=w5.heap.size:=tQ hBr3 hb5.size;clear b5 hb5 x0 x1 y0 y1 X5 Y5 HAS;cases ab
      ·have HE3:=Aa (HEA.o rfl)
       rw[HE3.o]at HE;have HE4:=Aa (show FF=(false,g2)from HE.o);go_wp2_with fail;go_ret;rw[HE4.o];exact⟨rfl,_,HA5.o,HF1.o.trans HF5.o⟩
      ·have HEP:=Aa (HEP.o rfl)
       have HEN:=Aa (HEN.o rfl);clear HEA;cases ex:x.part with
       |none=>
        have HE3:=Aa (HEN.o (.inl ex));have x5:w5.cell? ⟨gP,t*6+5,none⟩=some (.pointer none):=by have:=X5'.o;rw[ex]at this;exact this
        clear ex HEP HEN;go_wp2_with fail;go_roundg (Q.sels.length-(t2+1))
        case measure=>omega
        case rel=>exact⟨t2+1,g2,vo2,by go_num,by omega,tL _,HA5.o,HF5.o,HG3.o,HNR5.o,HE3.o⟩
       |some a=>
        obtain⟨ka,hka⟩:∃ka,pp[a]?=some ka:=⟨_,tN (by have:=HXI.o a ex;have:=HN.o;omega)⟩;have x5:w5.cell? ⟨gP,t*6+5,none⟩=some (.pointer (some ⟨ka,0,none⟩)):=by have:=X5'.o;rw[ex]at this;rw[this];simp[AM,hka]
        cases ey:y.part with
        |none=>
         have HE3:=Aa (HEN.o (.inr ey));have y5:w5.cell? ⟨gQ,t2*6+5,none⟩=some (.pointer none):=by have:=Y5'.o;rw[ey]at this;exact this
         clear ex ey HEP HEN hka;go_wp2_with fail;go_roundg (Q.sels.length-(t2+1))
         case measure=>omega
         case rel=>exact⟨t2+1,g2,vo2,by go_num,by omega,tL _,HA5.o,HF5.o,HG3.o,HNR5.o,HE3.o⟩
        |some b=>
         obtain⟨kb,hkb⟩:∃kb,pp[b]?=some kb:=⟨_,tN (by have:=HYI.o b ey;have:=HN.o;omega)⟩;have y5:w5.cell? ⟨gQ,t2*6+5,none⟩=some (.pointer (some ⟨kb,0,none⟩)):=by have:=Y5'.o;rw[ey]at this;rw[this];simp[AM,hkb]
         have HE3:=Aa (HEP.o a b ex ey);have HG6:=Aa (Nc HPIN.o (HXI.o a ex) (HYI.o b ey) HG3.o);have HJC:=Aa (fun W (hW:vE w5 W)=>HJ.o W (HBR5.o.trans (hW.mono HBR5.o.size)) (tQ hBr5 hW.size) g2 vo2 (HA5.o.below hW) HG3.o a b ka kb hka hkb);generalize GF parts a b g2=g6 at*;clear ex ey HEP HEN hka hkb;go_wp2_with fail;go_region_with (go_at_call 79;refine(HJC.o _ ?_).mono ?_;(first|exact(tM _ _).drew|exact tM _ _);rintro _ w6 ⟨rfl,vo6,ha6,hf6⟩);all_goals(
          have hf6':AF G Mb Lb w5 vo2 w6 vo6:=(by first|exact hf6|exact(AF.of_below (tM w5.heap.size w5).drew).trans hf6);have HA6:=Aa ha6;have HF6:=Aa (HF5.o.trans hf6');have HNR6:=Aa (HNBX.o w5 w6 vo2 vo6 g2 HA5.o HF5.o.li hf6' HNR5.o);clear ha6 hf6 hf6' x5 y5;go_wp2_with fail;go_roundg (Q.sels.length-(t2+1))
          case measure=>omega
          case rel=>exact⟨t2+1,g6,vo6,by go_num,by omega,tL _,HA6.o,HF6.o,HG6.o,HNR6.o,HE3.o⟩)
     ·have HE3:=Aa (HES.o hcond)
      have hskip:((x.kind:Int)!=0)=true\/(((x.kind:Int)!=0)=false/\((y.kind:Int)!=0)=true)\/(((x.kind:Int)!=0)=false/\((y.kind:Int)!=0)=false/\(x.key.toList==y.key.toList)=false):=by
       by_cases h1:x.kind=0
       ·by_cases h2:y.kind=0
        ·exact .inr (.inr ⟨by rw[h1];rfl,by rw[h2];rfl,by rw[Cr];exact tT (fun e=>hcond ⟨h1,h2,e⟩)⟩)
        ·exact .inr (.inl ⟨by rw[h1];rfl,by simp;omega⟩)
       ·exact .inl (by simp;omega)
      clear hcond;rcases hskip with q1|⟨q1,q2⟩|⟨q1,q2,q3⟩;all_goals(
       go_wp2_with fail;go_quiet (fail);obtain⟨n1,hn1⟩:∃n1,n1=nq:=⟨_,rfl⟩;rw[<-hn1];clear hn1 nq;go_wp2_with fail;go_quiet (fail);go_wp2_with fail;go_roundg (Q.sels.length-(t2+1))
       case measure=>omega
       case rel=>
        have hbb:=below_drewN (tM wr.heap.size wr) (n1+nq);exact⟨t2+1,g2,vo2,by go_num,by omega,tL _,HA3.o.below hbb,HF3.o.trans (AF.of_below hbb),HG3.o,(hbb.block _ ln3).trans HNR3.o,HE3.o⟩)
    ·have ht2:t2=Q.sels.length:=by omega
     subst ht2;have HE3:=Aa (show RES=(true,g2)from by rw[HM3.o,List.drop_length];rfl);rw[HE3.o]at HE;have HE4:=Aa (show FF=GH parts Q.sels (P.sels.drop (t+1)) g2 from HE.o);clear hA3 hF3 hM3 hnb3 wQ HM3 xE hki3 hkj3;go_wp2_with fail;go_roundg (P.sels.length-(t+1))
     case measure=>omega
     case rel=>exact⟨t+1,g2,vo2,by go_num,by omega,tL _,HA3.o,HF3.o,HG3.o,HNR3.o,HE4.o⟩
  ·have ht:t=P.sels.length:=by omega
   subst ht;have HE:=Aa (show FF=(true,g')from by rw[HM.o,List.drop_length];rfl);clear hA hF hM hnb hrel HM hbr hkr;go_wp2_with fail;go_ret;rw[HE.o];exact⟨rfl,_,HA.o,HF1.o.trans HF.o⟩
end
theorem mS{w:World}{B e n k cap size:Nat}{a:Option Addr}{xs:List Value}(h:w.ownsRow B e size (.slice a n cap) n xs)(hk:k<=n):w.ownsRow B e size (.slice a k cap) k (xs.take (k*size)):=by
 have hl:xs.length=n*size:=h.1;have hks:k*size<=n*size:=Nat.mul_le_mul_right _ hk;refine⟨by rw[List.length_take,hl];omega,?_⟩;rcases h.2 with⟨e1,e2⟩|⟨g,c,cur,e1,hg,hh,h1,h2,h3,h4⟩
 ·have e3:=Value.slice.inj e1
  obtain⟨rfl,rfl,rfl⟩:=e3;have:k=0:=by omega
  subst this;exact .inl ⟨rfl,rfl⟩
 ·have e3:=Value.slice.inj e1
  obtain⟨rfl, -,rfl⟩:=e3;refine .inr ⟨g,cap,cur,rfl,hg,hh,by omega,h2,h3,?_⟩;rw[<-h4,List.take_take,Nat.min_eq_left hks]
theorem Uj{β:Type}(flat:β->List Value)(size:Nat)(hf:∀x,(flat x).length=size):∀(l:List β) (k:Nat),(l.flatMap flat).take (k*size)=(l.take k).flatMap flat
 |[],k=>by simp
 |x::l,0=>by simp
 |x::l,k+1=>by
  rw[List.flatMap_cons,List.take_succ_cons,List.flatMap_cons,List.take_append,hf,Nat.succ_mul];rw[tW (by rw[hf];omega),show k*size+size-size=k*size by omega,Uj flat size hf l k]
theorem infoSP:(prog.info? 78).map (fun i=>(i.zero,i.size,i.bytes))=some (some (.slice none 0 0),1,24):=by kernel_rfl
section
variable {w X:World} {B1 G Mb Lb:Nat} {pp:List Nat} {parts:List Ai} {g:AY} {vo:Value}
theorem AG.pop(h:AG X B1 G Mb Lb pp parts g vo){a:Option Addr}{cap k:Nat}(hv:vo=.slice a g.2.length cap)(hk:k+1=g.2.length):AG (X.setCell ⟨G,0,none⟩ (.slice a k cap)) B1 G Mb Lb pp parts (g.1,g.2.dropLast) (.slice a k cap)/\AF G Mb Lb X vo (X.setCell ⟨G,0,none⟩ (.slice a k cap)) (.slice a k cap):=by
 subst hv;obtain⟨cs,h1,h2,h3⟩:=h.l;have ow:∀{e:TypeId} {size n:Nat} {v:Value} {xs:List Value},X.ownsRow B1 e size v n xs->e≠192->(X.setCell ⟨G,0,none⟩ (.slice a k cap)).ownsRow B1 e size v n xs:=fun ho he=>It ho (fun j hj _=>tX _ _ _ _ (show j≠G from fun e=>Bv ho h.b (fun q=>he q.symm) (by rw[<-e];exact hj)));have ho:=mS (k:=k) h.o (by omega);rw[Uj (LY pp) 2 (fun _=>rfl)]at ho;have hd:g.2.take k=g.2.dropLast:=by rw[List.dropLast_eq_take];congr 1;omega
 rw[hd]at ho;refine⟨⟨AI h.b 0 _,by show(X.setCell _ _).ownsRow B1 _ 2 _ g.2.dropLast.length _;rw[show g.2.dropLast.length=k by rw[List.length_dropLast];omega];exact ow ho (by decide),DT h.m (DW h.m h.b (by decide)) _,⟨cs,DT h1 (DW h1 h.b (by decide)) _,h2,fun i hi=>(h3 i hi).imp (fun e=>e) (fun⟨a,c,e,o⟩=>⟨a,c,e,ow o (by decide)⟩)⟩,h.lg,h.lm,h.ll⟩,rfl,rfl,rfl,by simp[World.setCell],fun k _ hk _ _ _=>tX _ _ _ _ hk,fun j hj=>.inl (by cases a with|none=>exact hj|some ad=>exact hj)⟩
end
theorem Rn(n:Nat):(madeCells #[.slice none 0 0] n).size=n/\∀i,i<n->(madeCells #[.slice none 0 0] n)[i]?=some (.slice none 0 0):=by
 have h:(madeCells #[.slice none 0 0] n).toList=List.replicate n (.slice none 0 0):=by rw[toList_madeCells_one]
 refine⟨by rw[<-Array.length_toList,h];simp,fun i hi=>?_⟩;rw[<-Array.getElem?_toList,h];simp[hi]
theorem AG.start{X:World}{B1 G Mb Lb:Nat}{pp:List Nat}{parts:List Ai}(hG:X.heap[G]?=some (.cells #[.slice none 0 0,.slice (some ⟨Mb,0,none⟩) (pp.length*pp.length) (pp.length*pp.length),.slice (some ⟨Lb,0,none⟩) pp.length pp.length] 192 (0,0)))(hM:X.heap[Mb]?=some (.cells (madeCells #[.bool false] (pp.length*pp.length)) 4 (0,0)))(hL:X.heap[Lb]?=some (.cells (madeCells #[.slice none 0 0] pp.length) 78 (0,0)))(h1:B1<=G)(h2:B1<=Mb)(h3:B1<=Lb):AG X B1 G Mb Lb pp parts (List.replicate (pp.length*pp.length) false,[]) (.slice none 0 0):=
 ⟨hG,uA _ _ _ _,by rw[<-Nk];exact hM,⟨_,hL,(Rn _).1,fun i hi=>.inl ((Rn _).2 i hi)⟩,h1,h2,h3⟩
theorem YS{w:World}{B0 q:Nat}{Q:Qy}{ps:List Nat}(h:EQ w B0 q Q ps)(hpi:BM Q.parts){vs:List DS}{whole:Nat}(ho:Q.ops=[(vs,whole)]):
 Calls prog 47 #[.pointer (some ⟨q,0,none⟩)] w fun e w'=>e=.returned (.bool (Kv Q.parts whole))/\vE w w':=by
 obtain⟨vO,vF,vP,LO,h1,h2,h3,h4,h5,h6⟩:=h.ex;obtain⟨aP,cP,rfl⟩:=An h2;obtain⟨aO,cO,rfl⟩:=An h4;have hl3:=h.l3;obtain⟨y,hLO⟩:∃y,LO=[y]:=by
  rw[ho]at h3;cases LO with
  |nil=>cases h3
  |cons y l=>cases l with
   |nil=>exact⟨y,rfl⟩
   |cons z l=>simp at h3
 subst hLO;have hy:y.1=(vs,whole):=by rw[ho]at h3;simpa using h3
 have hwl:whole<ps.length:=by have:=(h5 y uX).p;rw[hy]at this;exact this
 obtain⟨kw,hkw⟩:∃kw,ps[whole]?=some kw:=⟨_,tN hwl⟩;obtain⟨gO,capO,hvO,hcO⟩:=Cn h4 (fun _=>rfl) 0 y rfl;have eO:=(Value.slice.inj hvO).1;subst eO;have cO1:w.cell? ⟨gO,1,none⟩=some (.pointer (some ⟨kw,0,none⟩)):=by have:=hcO 1 _ rfl;simpa [oL,hy,AM,hkw]using this
 have hnn:ps.length*ps.length<=4000000:=tQ (Nat.mul_le_mul hl3 hl3) (by decide);have hmk1:=run_make_row' (P:=prog) 124 4 (.bool false) 1 underlying124 info4 rfl .i64 .i64 (ps.length*ps.length) (by omega) (by omega);have hmk2:=run_make_row' (P:=prog) 189 78 (.slice none 0 0) 24 underlying189 infoSP rfl .i64 .i64 ps.length (by omega) (by omega);rw[Int.natCast_mul]at hmk1;have hI0:(0:Int)<=(ps.length:Int)*(ps.length:Int):=by rw[<-Int.natCast_mul];omega
 have hI1:(ps.length:Int)*(ps.length:Int)<=4000000:=by rw[<-Int.natCast_mul];omega
 have cq:=Ac h1;have lq:=Ab h1;have lO:=tR w _ cO1;have HPT:=Aa h.pt;have HN:=Aa h.n;have HPI:=Aa hpi;have HKW:=Aa hkw;obtain⟨FF,HFF⟩:∃FF,Hi (FF=Kv Q.parts whole):=⟨_,Aa rfl⟩;rw[<-HFF.o];have HMN:=Aa (Rn ps.length);have hnp:=Aa h.n;generalize Q.parts=parts at*;clear h h1 h2 h3 h4 h5 h6 hy hcO hvO hpi ho hkw;go_enter func47,ntmps47;go_wp2_with fail;go_cut [4] (fun v4 wc=>∃G Mb Lb,v4=.pointer (some ⟨G,0,none⟩)/\AG wc w.heap.size G Mb Lb ps parts (List.replicate (ps.length*ps.length) false,[]) (.slice none 0 0)/\vE w wc)
 case first=>
  go_region;all_goals(
   (try go_wp2_with fail)
   go_meet;first
    |exact⟨w.heap.size+1+1,w.heap.size,w.heap.size+1,rfl,AG.start (Hg w _ _ _).2.2 (Hg w _ _ _).1 (Hg w _ _ _).2.1 (by omega) (by omega) (by omega),(bA (bA (bA (tM _ _) _) _) _).drew⟩
    |exact⟨w.heap.size+1+1,w.heap.size+1,w.heap.size,rfl,AG.start (Hg w _ _ _).2.2 (Hg w _ _ _).2.1 (Hg w _ _ _).1 (by omega) (by omega) (by omega),(bA (bA (bA (tM _ _) _) _) _).drew⟩)
 case rest=>
 obtain⟨G,Mb,Lb,rfl,ha,hb⟩:=hcut;have HA:=Aa ha;have HB:=Aa hb;have cq1:=fun i=>(hb.cell (p:=⟨q,i,none⟩) lq).trans (cq i);have lq1:=tV lq hb.size;have cO':=Ah hb cO1;have lO':=tV lO hb.size;have HG0:=Aa (show BB parts.length (ps.length*ps.length) (List.replicate (ps.length*ps.length) false,[])from⟨by rw[List.length_replicate,HN.o],fun p hp=>(by cases hp),by rw[Ja];simp⟩);have HJC:=Aa (UF (B1:=w.heap.size) HPT.o HN.o HPI.o hl3 (tL _) hb hb.size ha HG0.o (by omega) HKW.o HKW.o);have HGJ:=Aa (Nc HPI.o (show whole<parts.length by have:=HN.o;omega) (show whole<parts.length by have:=HN.o;omega) HG0.o);have HQ:=Aa (show FF=IH parts (ps.length*ps.length+1) (GF parts whole whole (List.replicate (ps.length*ps.length) false,[]))from by rw[HFF.o];unfold Kv;rw[HN.o]);generalize GF parts whole whole (List.replicate (ps.length*ps.length) false,[])=g0 at*;clear ha hb cq lq cO1 lO HFF;go_wp2_with fail;refine HJC.o.mono ?_;rintro _ w3 ⟨rfl,vo3,ha3,hf3⟩;have HA3:=Aa ha3;have HB3:=Aa (show vE w w3 from HB.o.trans (hf3.below HA.o));clear ha3 hf3 HJC;have HLK:=Aa (fun(W:World) (hW:vE w W) (g':AY) (v':Value) (hA:AG W w.heap.size G Mb Lb ps parts g' v') (c:Nat) (hg':BB parts.length c g') (hc:c<=5000000) (a b ka kb:Nat) (ha:ps[a]?=some ka) (hb:ps[b]?=some kb)=>jT (B1:=w.heap.size) HPT.o HN.o HPI.o hl3 (tL _) hW hW.size hA hg' hc ha hb);go_wp2_with fail;go_loopg [6,7] (ps.length*ps.length) (fun m v6 v7 wr=>∃(g':AY) (vo':Value) (c f:Nat),AG wr w.heap.size G Mb Lb ps parts g' vo'/\vE w wr/\BB parts.length c g'/\c<=m/\c+1<=f/\c<=4000000/\FF=IH parts f g')
 case atStart=>exact⟨g0,vo3,ps.length*ps.length,ps.length*ps.length+1,HA3.o,HB3.o,HGJ.o,tL _,tL _,hnn,HQ.o⟩
 case round=>
  obtain⟨g',vo',c,f,hA,hb,hM,hcm,hcf,hc4,hrel⟩:=hrel;obtain⟨ao,co,rfl⟩:=An hA.o;have HM:=Aa hrel;have HAR:=Aa hA;have HBR:=Aa hb;have HGR:=Aa hM;have cG:=Ac hA.b;have fG:=Am hA.b;have lG:=Ab hA.b;have hmc:=hM.c;obtain⟨f',rfl⟩:∃f',f=f'+1:=⟨f-1,by omega⟩;cases hgl:g'.2.getLast? with
  |none=>
   have h0:g'.2=[]:=List.getLast?_eq_none_iff.1 hgl;have HE:=Aa (show FF=true from by rw[HM.o,IH,hgl]);have hz:¬0<g'.2.length:=by rw[h0];simp
   clear hA hb hM hrel HM hgl h0;go_wp2_with fail;go_ret;rw[HE.o];exact⟨rfl,HBR.o⟩
  |some p=>
   have hd:g'.2=g'.2.dropLast++[p]:=by
    obtain⟨l,e⟩:=List.getLast?_eq_some_iff.1 hgl;rw[e];simp
   have hlen:g'.2.dropLast.length+1=g'.2.length:=by have:=congrArg List.length hd;simp at this;rw[List.length_dropLast];omega
   obtain⟨k,hk⟩:∃k,k=g'.2.dropLast.length:=⟨_,rfl⟩;have hpk:g'.2[k]?=some p:=by rw[hd,hk,uJ (tL _)];simp
   have hpm:p∈g'.2:=tO hpk;have hpl:=hM.o p hpm;obtain⟨ka,hka⟩:∃ka,ps[p.1]?=some ka:=⟨_,tN (by have:=HN.o;omega)⟩;obtain⟨kb,hkb⟩:∃kb,ps[p.2]?=some kb:=⟨_,tN (by have:=HN.o;omega)⟩;obtain⟨go,capo,hvo,hcc⟩:=Cn hA.o (fun _=>rfl) k p hpk;have eo:=(Value.slice.inj hvo).1;subst eo;have p0:wr.cell? ⟨go,k*2,none⟩=some (.pointer (some ⟨ka,0,none⟩)):=by have:=hcc 0 _ rfl;simpa [AM,hka]using this
   have p1:wr.cell? ⟨go,k*2+1,none⟩=some (.pointer (some ⟨kb,0,none⟩)):=by have:=hcc 1 _ rfl;simpa [AM,hkb]using this
   have lp:=tR wr _ p0;have hco:g'.2.length<=co:=by
    rcases hA.o.2 with⟨e1,_⟩|⟨_,_,_,e1,_,_,q1,_⟩
    ·cases e1
    ·rw[(Value.slice.inj e1).2.2];exact q1
   have hzI:0<g'.2.length:=by omega
   have hkI:((g'.2.length:Int)-1)=(k:Int):=by omega
   have hkn:(k:Int)<g'.2.length:=by omega
   have hkc:(k:Int)<=co:=by omega
   have HK1:=Aa (show k+1=g'.2.length by omega);have HMP:=Aa (show BB parts.length (c-1) (g'.1,g'.2.dropLast)from⟨hM.l,fun r hr=>hM.o r (by rw[hd];exact List.mem_append_left _ hr),by simp only[];omega⟩);have HE:=Aa (show FF=if (GI parts p (g'.1,g'.2.dropLast)).1=true then IH parts f' (GI parts p (g'.1,g'.2.dropLast)).2 else false from by rw[HM.o,IH,hgl]);have hg5:g'.2.length<=4000000:=by omega
   clear hA hM hrel HM hgl hd hlen hpk hpm hpl hvo hcc hk;go_upto_region 9 with fail;obtain⟨hP0,hP2⟩:=HAR.o.pop rfl HK1.o;have hbA:Below (wr.setCell ⟨G,0,none⟩ (.slice (some ⟨go,0,none⟩) k co)).heap.size (wr.setCell ⟨G,0,none⟩ (.slice (some ⟨go,0,none⟩) k co)) ((wr.setCell ⟨G,0,none⟩ (.slice (some ⟨go,0,none⟩) k co)).alloc (.cells #[.pointer (some ⟨ka,0,none⟩),.pointer (some ⟨kb,0,none⟩)] 195)):=bA (tM _ _) _;have hP1:=hP0.below hbA;have hnb:((wr.setCell ⟨G,0,none⟩ (.slice (some ⟨go,0,none⟩) k co)).alloc (.cells #[.pointer (some ⟨ka,0,none⟩),.pointer (some ⟨kb,0,none⟩)] 195)).heap[wr.heap.size]?=some (.cells #[.pointer (some ⟨ka,0,none⟩),.pointer (some ⟨kb,0,none⟩)] 195 (0,0)):=by
    have e:wr.heap.size=(wr.setCell ⟨G,0,none⟩ (.slice (some ⟨go,0,none⟩) k co)).heap.size:=by simp[World.setCell]
    rw[e];exact tS _ _
   have HP1:=Aa hP1;have HB4:=Aa (show vE w ((wr.setCell ⟨G,0,none⟩ (.slice (some ⟨go,0,none⟩) k co)).alloc (.cells #[.pointer (some ⟨ka,0,none⟩),.pointer (some ⟨kb,0,none⟩)] 195))from(HBR.o.trans (hP2.below HAR.o)).trans (hbA.mono (tQ HBR.o.size hP2.size)));generalize (wr.setCell ⟨G,0,none⟩ (.slice (some ⟨go,0,none⟩) k co)).alloc (.cells #[.pointer (some ⟨ka,0,none⟩),.pointer (some ⟨kb,0,none⟩)] 195)=W4 at*;have cn:=Ac hnb;have ln:=Ab hnb;have HLC:=Aa (HLK.o W4 HB4.o _ _ HP1.o (c-1) HMP.o (by omega) p.1 p.2 ka kb hka hkb);have HGL:=Aa (Vw (p:=p) HPI.o HMP.o);rw[show((p.1,p.2):Nat×Nat)=p from rfl]at HLC;generalize GI parts p (g'.1,g'.2.dropLast)=r at*;obtain⟨rb,g5⟩:=r;simp only[]at HLC HGL HE;clear hP0 hP1 hP2 hnb hbA hka hkb;go_wp2_with fail;refine HLC.o.mono ?_;rintro _ w6 ⟨rfl,vo6,ha6,hf6⟩;have HA6:=Aa ha6;have HB6:=Aa (HB4.o.trans (hf6.below HP1.o));clear ha6 hf6;cases rb
   ·have HE2:=Aa (show FF=false from HE.o)
    go_wp2_with fail;go_ret;rw[HE2.o];exact⟨rfl,HB6.o⟩
   ·have HE2:=Aa (show FF=IH parts f' g5 from HE.o)
    go_wp2_with fail;go_roundg (c-1)
    case measure=>omega
    case rel=>exact⟨g5,vo6,c-1,f',HA6.o,HB6.o,HGL.o,tL _,by omega,by omega,HE2.o⟩
theorem NS(w:World)(a b:Obj):((w.alloc a).alloc b).heap[w.heap.size]?=some a/\((w.alloc a).alloc b).heap[w.heap.size+1]?=some b:=by
 refine⟨?_,?_⟩
 ·rw[AK _ _ _ (by simp)];exact tS w a
 ·have:=tS (w.alloc a) b;simpa using this
def In(E:CB)(parts:List Ai)(whole:Nat):Bool:=(BT E parts (parts.length+1) whole bQ (List.replicate parts.length false)).1&&Kv parts whole
section
variable {w:World} {S:Nat} {vR vO vI vU vN:Value} {LR:List (At×Value)} {LO:List AV} {LI:List (As×Value)} {LU:List (Au×Value)} {names:List vD}
theorem YH(h:SV w S vR vO vI vU vN LR LO LI LU names){V B0 q whole:Nat}{id:vD}{roles:List vD}{Q:Qy}{ps:List Nat}{vs:List DS}(hv:DM w V id roles)(hq:EQ w B0 q Q ps)(hpi:BM Q.parts)(ho:Q.ops=[(vs,whole)]):
 Calls prog 23 #[.pointer (some ⟨S,0,none⟩),.pointer (some ⟨V,0,none⟩),.pointer (some ⟨q,0,none⟩)] w fun e w'=>e=.returned (.bool (In ⟨LO.map Prod.fst,LI.map Prod.fst,LU.map Prod.fst,roles⟩ Q.parts whole))/\vE w w':=by
 have HAG:=Aa (fun W (hW:vE w W)=>YS (hq.below hW) hpi ho);obtain⟨vO',vF,vP,LO',h1,h2,h3,h4,h5,h6⟩:=hq.ex;obtain⟨aP,cP,rfl⟩:=An h2;obtain⟨aO,cO,rfl⟩:=An h4;have hl3:=hq.l3;obtain⟨y,hLO⟩:∃y,LO'=[y]:=by
  rw[ho]at h3;cases LO' with
  |nil=>cases h3
  |cons y l=>cases l with
   |nil=>exact⟨y,rfl⟩
   |cons z l=>simp at h3
 subst hLO;have hy:y.1=(vs,whole):=by rw[ho]at h3;simpa using h3
 have hwl:whole<ps.length:=by have:=(h5 y uX).p;rw[hy]at this;exact this
 obtain⟨kw,hkw⟩:∃kw,ps[whole]?=some kw:=⟨_,tN hwl⟩;obtain⟨gO,capO,hvO,hcO⟩:=Cn h4 (fun _=>rfl) 0 y rfl;have eO:=(Value.slice.inj hvO).1;subst eO;have cO1:w.cell? ⟨gO,1,none⟩=some (.pointer (some ⟨kw,0,none⟩)):=by have:=hcO 1 _ rfl;simpa [oL,hy,AM,hkw]using this
 have lO:=tR w _ cO1;have hmk:=run_make_row' (P:=prog) 124 4 (.bool false) 1 underlying124 info4 rfl .i64 .i64 ps.length (by omega) (by omega);have cq:=Ac h1;have lq:=Ab h1;have HAL:=Aa (fun(W:World) (hW:vE w W) (Sb C:Nat) (hSb:w.heap.size<=Sb) (hne:¬C=Sb) (hC:W.heap[C]?=some (.cells #[.pointer (some ⟨S,0,none⟩),.pointer (some ⟨V,0,none⟩),.slice (some ⟨Sb,0,none⟩) ps.length ps.length] 126 (0,0))) (hS:W.heap[Sb]?=some (.cells (madeCells #[.bool false] ps.length) 4 (0,0)))=>(YV h hv hq.pt hq.n hSb hne (Q.parts.length+1) W whole kw bQ (List.replicate ps.length false) hW hC hkw (by rw[<-Nk];exact hS) (by simp) (by rw[Ja,hq.n];exact tL _)));unfold Kn at HAL;have HQ:=Aa (show In ⟨LO.map Prod.fst,LI.map Prod.fst,LU.map Prod.fst,roles⟩ Q.parts whole=((BT ⟨LO.map Prod.fst,LI.map Prod.fst,LU.map Prod.fst,roles⟩ Q.parts (Q.parts.length+1) whole bQ (List.replicate ps.length false)).1&&Kv Q.parts whole)from by unfold In;rw[hq.n]);generalize In ⟨LO.map Prod.fst,LI.map Prod.fst,LU.map Prod.fst,roles⟩ Q.parts whole=FF at*;generalize Kv Q.parts whole=ab at*;generalize BT ⟨LO.map Prod.fst,LI.map Prod.fst,LU.map Prod.fst,roles⟩ Q.parts (Q.parts.length+1) whole bQ (List.replicate ps.length false)=r at*;obtain⟨rb,rs⟩:=r;simp only[]at HAL HQ;clear h hv hq hpi h1 h2 h3 h4 h5 h6 hy hcO hvO ho hkw;go_enter func23,ntmps23;go_upto_region 2 with fail;have HB1:=Aa (show vE w ((w.alloc (.cells (madeCells #[.bool false] ps.length) 4)).alloc (.cells #[.pointer (some ⟨S,0,none⟩),.pointer (some ⟨V,0,none⟩),.slice (some ⟨w.heap.size,0,none⟩) ps.length ps.length] 126))from bA (bA (tM _ _) _) _);have HC1:=Aa (show((w.alloc (.cells (madeCells #[.bool false] ps.length) 4)).alloc (.cells #[.pointer (some ⟨S,0,none⟩),.pointer (some ⟨V,0,none⟩),.slice (some ⟨w.heap.size,0,none⟩) ps.length ps.length] 126)).heap[w.heap.size+1]?=some (.cells #[.pointer (some ⟨S,0,none⟩),.pointer (some ⟨V,0,none⟩),.slice (some ⟨w.heap.size,0,none⟩) ps.length ps.length] 126 (0,0))from(NS w _ _).2);have HS1:=Aa (show((w.alloc (.cells (madeCells #[.bool false] ps.length) 4)).alloc (.cells #[.pointer (some ⟨S,0,none⟩),.pointer (some ⟨V,0,none⟩),.slice (some ⟨w.heap.size,0,none⟩) ps.length ps.length] 126)).heap[w.heap.size]?=some (.cells (madeCells #[.bool false] ps.length) 4 (0,0))from(NS w _ _).1);generalize (w.alloc (.cells (madeCells #[.bool false] ps.length) 4)).alloc (.cells #[.pointer (some ⟨S,0,none⟩),.pointer (some ⟨V,0,none⟩),.slice (some ⟨w.heap.size,0,none⟩) ps.length ps.length] 126)=W1 at*;have cq1:=fun i=>(HB1.o.cell (p:=⟨q,i,none⟩) lq).trans (cq i);have lq1:=tV lq HB1.o.size;have cO':=Ah HB1.o cO1;have lO':=tV lO HB1.o.size;have HC:=Aa (HAL.o W1 HB1.o w.heap.size (w.heap.size+1) (tL _) (by omega) HC1.o HS1.o);clear cq lq cO1 lO HAL;go_wp2_with fail;refine HC.o.mono ?_;rintro _ w2 ⟨rfl,h2,k2⟩;have HB2:=Aa (show vE w w2 from HB1.o.trans (k2.below (tL _) HB1.o.size));clear h2 k2 HC;cases rb
 ·have HF:=Aa (show FF=false from HQ.o)
  go_wp2_with fail;go_ret;rw[HF.o];exact⟨rfl,HB2.o⟩
 ·have HF:=Aa (show FF=ab from HQ.o)
  have HG:=Aa (HAG.o w2 HB2.o);go_wp2_with fail;refine HG.o.mono ?_;rintro _ w3 ⟨rfl,b3⟩;have HB3:=Aa (bT HB2.o b3);clear b3;go_wp2_with fail;go_ret;rw[HF.o];exact⟨rfl,HB3.o⟩
end
end Go.Proofs.YtadneapobijejaaGreatDoor
