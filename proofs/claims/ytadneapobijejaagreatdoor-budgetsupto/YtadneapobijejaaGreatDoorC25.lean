import Derived.Test.YtadneapobijejaaGreatDoorC17
import Derived.Test.YtadneapobijejaaGreatDoorC20
import Derived.BigQuiet
namespace Go.Proofs.YtadneapobijejaaGreatDoor
set_option maxHeartbeats 20000000
set_option maxRecDepth 100000
open Go.RowKit Tryz
theorem infoSt:(prog.info? 257).map (fun i=>(i.zero,i.size,i.bytes))=some (some (.int .i64 0),1,8):=by kernel_rfl
theorem jV(n:Nat):madeCells #[.int .i64 0] n=(Gx (List.replicate n 0)).toArray:=by
 apply Array.toList_inj.1;rw[toList_madeCells_one];simp[Gx]
def KD(parts:List Ai)(n:Nat):List CS->List Nat->Bool
 |[],_=>false
 |x::l,st=>if (CD parts (n+1) x.2 st).1=true then true else KD parts n l (CD parts (n+1) x.2 st).2
def MN(Q:Qy):Bool:=KD Q.parts Q.parts.length Q.frags (List.replicate Q.parts.length 0)
theorem EQ.below{X Y:World}{B0 q:Nat}{Q:Qy}{ps:List Nat}(h:EQ X B0 q Q ps)(hb:vE X Y):EQ Y B0 q Q ps:=by
 obtain⟨vO,vF,vP,LO,h1,h2,h3,h4,h5,h6⟩:=h.ex;exact⟨⟨vO,vF,vP,LO,(hb.block _ (Ab h1)).trans h1,AT h2 hb,h3,AT h4 hb,fun x hx=>⟨AT (h5 x hx).v hb,(h5 x hx).l,(h5 x hx).p⟩,AT h6 hb⟩,h.ff,h.n,h.pt.typ' (AA.below hb),h.lq,h.l1,h.l2,h.l3⟩
theorem ZN{w:World}{B0 q:Nat}{Q:Qy}{ps:List Nat}(h:EQ w B0 q Q ps):
 Calls prog 41 #[.pointer (some ⟨q,0,none⟩)] w fun e w'=>e=.returned (.bool (MN Q))/\vE w w':=by
 obtain⟨vO,vF,vP,LO,h1,h2,h3,h4,h5,h6⟩:=h.ex;obtain⟨aP,cP,rfl⟩:=An h2;obtain⟨aF,cF,rfl⟩:=An h6;have hl3:=h.l3;have hl2:=h.l2;have hmk:=run_make_row' (P:=prog) 178 257 (.int .i64 0) 8 underlying178 infoSt rfl .i64 .i64 ps.length (by omega) (by omega);have cq:=Ac h1;have lq:=Ab h1;have HFR:=Aa h6;have HFF:=Aa h.ff;have HPT:=Aa h.pt;have HC:=Aa (ZM (B0:=B0) h.n);have HQ:=Aa (show MN Q=KD Q.parts ps.length Q.frags (List.replicate ps.length 0)from by unfold MN;rw[h.n]);generalize MN Q=FF at*;clear h h1 h2 h3 h4 h5 h6;go_enter func41,ntmps41;go_wp2_with fail;have hB1:vE w (w.alloc (.cells (madeCells #[.int .i64 0] ps.length) 257)):=(tM _ _).alloc (tL _) _;have hS1:(w.alloc (.cells (madeCells #[.int .i64 0] ps.length) 257)).heap[w.heap.size]?=some (.cells (madeCells #[.int .i64 0] ps.length) 257 (0,0)):=tS w _;rw[jV]at hB1 hS1⊢;generalize w.alloc (.cells (Gx (List.replicate ps.length 0)).toArray 257)=W1 at*;go_loopg [5,17] Q.frags.length (fun m v5 v17 wr=>∃(t:Nat) (st:List Nat),v17=.int .i64 t/\t<=Q.frags.length/\Q.frags.length-t<=m/\vE w wr/\wr.heap[w.heap.size]?=some (.cells (Gx st).toArray 257 (0,0))/\st.length=ps.length/\FF=KD Q.parts ps.length (Q.frags.drop t) st)
 case atStart=>exact⟨0,_,rfl,tU _,tL _,hB1,hS1,by simp,HQ.o⟩
 case round=>
  obtain⟨t,st,rfl,htl,htm,hb,hS,hlen,hrel⟩:=hrel;have HM:=Aa hrel;have HB:=Aa hb;have HS:=Aa hS;have lS:=Ab hS;by_cases hlt:t<Q.frags.length
  ·have hx:=tN hlt
   have hdr:Q.frags.drop t=Q.frags[t]::Q.frags.drop (t+1):=uT hlt;have hmem:Q.frags[t]∈Q.frags:=List.getElem_mem hlt;generalize Q.frags[t]=x at hx hdr hmem;obtain⟨g,cap',hv,hc⟩:=Cn HFR.o (fun _=>rfl) t x hx;have ea:=(Value.slice.inj hv).1;subst ea;have hbd:=HFF.o x hmem;obtain⟨k',hk'⟩:∃k',ps[x.2]?=some k':=⟨_,tN hbd⟩;have x0:wr.cell? ⟨g,t*2,none⟩=some (.string x.1):=Ah hb (by simpa using hc 0 _ rfl);have x1:wr.cell? ⟨g,t*2+1,none⟩=some (.pointer (some ⟨k',0,none⟩)):=Ah hb (by rw[hc 1 _ rfl];simp[AM,hk']);have hlg:g<wr.heap.size:=tR wr _ x0;have hz0:Gb st<=st.length:=List.countP_le_length;have HCC:=Aa (fun W (hW:vE wr W)=>HC.o (ps.length+1) W x.2 k' w.heap.size st ((HPT.o.typ' (AA.below hb)).typ' (AA.below hW)) hk' ((hW.block _ lS).trans HS.o) hlen (by omega));have hzl:=Ql Q.parts (ps.length+1) x.2 st;rw[hdr]at HM;have HE:=Aa (show FF=if (CD Q.parts (ps.length+1) x.2 st).1=true then true else KD Q.parts ps.length (Q.frags.drop (t+1)) (CD Q.parts (ps.length+1) x.2 st).2 from by rw[HM.o,KD]);generalize CD Q.parts (ps.length+1) x.2 st=r at*;obtain⟨rb,st2⟩:=r;simp only[]at HCC hzl HE;have hbz:=hb.size;clear hc hx hdr HM hbd hrel hS hb hmem hv hz0;go_wp2_with fail;have HA:=Aa (show vE wr (wr.alloc (.cells #[.string x.1,.pointer (some ⟨k',0,none⟩)] 112))from(tM _ _).alloc (tL _) _);refine(HCC.o _ HA.o).mono ?_;rintro _ w5 ⟨rfl,h5,k5⟩;have HS5:=Aa h5;have HB5:=Aa (show vE w w5 from(HB.o.trans (HA.o.mono hbz)).trans (k5.below (tL _) (tQ hbz HA.o.size)));clear h5 k5 HCC;cases rb
   ·have HE2:=Aa (show FF=KD Q.parts ps.length (Q.frags.drop (t+1)) st2 from HE.o)
    go_wp2_with fail;go_roundg (Q.frags.length-(t+1))
    case measure=>omega
    case rel=>exact⟨t+1,st2,by go_num,by omega,tL _,HB5.o,HS5.o,by omega,HE2.o⟩
   ·have HE2:=Aa (show FF=true from HE.o)
    go_wp2_with fail;go_ret;rw[HE2.o];exact⟨rfl,HB5.o⟩
  ·have ht:t=Q.frags.length:=by omega
   subst ht;have HE:=Aa (show FF=false from by rw[HM.o,List.drop_length];rfl);clear hS hb hrel HM;go_wp2_with fail;go_ret;rw[HE.o];exact⟨rfl,HB.o⟩
def Ij(fr:List CS)(n:vD):Option Nat:=if Ae (fr.map Prod.fst) n<0 then none else fr[(Ae (fr.map Prod.fst) n).toNat]?.map Prod.snd
def BU(fr:List CS)(x:Aq):Aq:=if x.kind=1 then(match Ij fr x.name with|some p=>⟨x.kind,x.key,x.name,x.args,x.conds,some p⟩|none=>x)else x
def tg(fr:List CS)(pp:List Nat)(n:vD):Option Value:=(Ij fr n).map (fun p=>AM pp (some p))
def Hz(t:vD->Option Value)(cur cur':Array Value):Prop:=cur'.size=cur.size/\∀i,cur'[i]?=cur[i]?\/∃j n u,i=j*6+5/\cur[j*6]?=some (.int .i64 1)/\cur[j*6+2]?=some (.string n)/\t n=some u/\cur'[i]?=some u
structure Lk(t:vD->Option Value)(B0:Nat)(w X:World):Prop where
 os:X.os=w.os
 tape:X.tape=w.tape
 output:X.output=w.output
 size:w.heap.size<=X.heap.size
 low:∀k,k<B0->X.heap[k]?=w.heap[k]?
 oth:∀(k:Nat) (o:Obj),w.heap[k]?=some o->(∀(cs:Array Value) (fr:Nat×Nat),o≠.cells cs 177 fr)->X.heap[k]?=some o
 sel:∀(k:Nat) (cur:Array Value) (fr:Nat×Nat),w.heap[k]?=some (.cells cur 177 fr)->∃cur',X.heap[k]?=some (.cells cur' 177 fr)/\Hz t cur cur'
section
variable {t:vD->Option Value} {B0:Nat} {w X Y:World}
theorem Hz.refl(cur:Array Value):Hz t cur cur:=⟨rfl,fun _=>.inl rfl⟩
theorem Hz.fix{cur cur':Array Value}(h:Hz t cur cur')(i:Nat)(hi:∀j,i≠j*6+5):cur'[i]?=cur[i]?:=by
 rcases h.2 i with e|⟨j,n,u,e,_⟩
 ·exact e
 ·exact absurd e (hi j)
theorem Hz.trans{a b c:Array Value}(h:Hz t a b)(k:Hz t b c):Hz t a c:=by
 refine⟨k.1.trans h.1,fun i=>?_⟩;rcases k.2 i with e|⟨j,n,u,e,e1,e2,e3,e4⟩
 ·rcases h.2 i with f|⟨j,n,u,f,f1,f2,f3,f4⟩
  ·exact .inl (e.trans f)
  ·exact .inr ⟨j,n,u,f,f1,f2,f3,e.trans f4⟩
 ·exact .inr ⟨j,n,u,e,(h.fix _ (fun j'=>by omega)).symm.trans e1,(h.fix _ (fun j'=>by omega)).symm.trans e2,e3,e4⟩
theorem Lk.refl:Lk t B0 w w:=⟨rfl,rfl,rfl,tL _,fun _ _=>rfl,fun _ _ h _=>h,fun _ cur _ h=>⟨cur,h,Hz.refl _⟩⟩
theorem Lk.trans(h:Lk t B0 w X)(k:Lk t B0 X Y):Lk t B0 w Y:=
 ⟨k.os.trans h.os,k.tape.trans h.tape,k.output.trans h.output,tQ h.size k.size,fun i hi=>(k.low i hi).trans (h.low i hi),fun i o hi ho=>k.oth i o (h.oth i o hi ho) ho,fun i cur fr hi=>by
  obtain⟨c1,h1,h2⟩:=h.sel i cur fr hi;obtain⟨c2,h3,h4⟩:=k.sel i c1 fr h1;exact⟨c2,h3,h2.trans h4⟩⟩
theorem Lk.set{g j:Nat}{cur:Array Value}{n:vD}{u:Value}(hg:X.heap[g]?=some (.cells cur 177 (0,0)))(hB:B0<=g)(h0:cur[j*6]?=some (.int .i64 1))(h2:cur[j*6+2]?=some (.string n))(ht:t n=some u):Lk t B0 X (X.setCell ⟨g,j*6+5,none⟩ u):=by
 refine⟨rfl,rfl,rfl,by simp[World.setCell],fun k hk=>tX _ _ _ _ (show k≠g by omega),fun k o hk ho=>(tX _ _ _ _ (show k≠g from fun e=>by subst e;rw[hg]at hk;exact ho _ _ (tY hk).symm)).trans hk,fun k c fr hk=>?_⟩;by_cases e:k=g
 ·subst e
  rw[hg]at hk;cases hk;refine⟨_,AI hg _ u,by simp,fun i=>?_⟩;by_cases ei:i=j*6+5
  ·subst ei
   by_cases hs:j*6+5<cur.size
   ·exact .inr ⟨j,n,u,rfl,h0,h2,ht,by rw[Array.getElem?_setIfInBounds];simp[hs]⟩
   ·exact .inl (by rw[Array.getElem?_setIfInBounds];simp[hs])
  ·exact .inl (by rw[Array.getElem?_setIfInBounds];simp[Ne.symm ei])
 ·exact⟨c,(tX _ _ _ _ e).trans hk,Hz.refl _⟩
theorem Lk.at{k:Nat}{cs:Array Value}{T:TypeId}{fr:Nat×Nat}(h:Lk t B0 w X)(hk:w.heap[k]?=some (.cells cs T fr))(hT:T≠177):X.heap[k]?=some (.cells cs T fr):=h.oth k _ hk (fun _ _ e=>hT (Obj.cells.inj e).2.1)
theorem Lk.own{B n size:Nat}{e:TypeId}{v:Value}{xs:List Value}(h:Lk t B0 w X)(ho:w.ownsRow B e size v n xs)(he:e≠177):X.ownsRow B e size v n xs:=Ir ho (fun _ _ _ hk=>h.at hk he)
theorem Lk.cell{g i:Nat}{cur:Array Value}{fr:Nat×Nat}(h:Lk t B0 w X)(hg:w.heap[g]?=some (.cells cur 177 fr))(hi:∀j,i≠j*6+5):X.cell? ⟨g,i,none⟩=w.cell? ⟨g,i,none⟩:=by
 obtain⟨c,h1,h2⟩:=h.sel g cur fr hg;rw[Ac h1,Ac hg,h2.fix i hi]
theorem Lk.fin{g j:Nat}{cur:Array Value}{fr:Nat×Nat}{u:Value}{kd:Int}{n:vD}(h:Lk t B0 w X)(hg:w.heap[g]?=some (.cells cur 177 fr))(h0:w.cell? ⟨g,j*6,none⟩=some (.int .i64 kd))(h2:w.cell? ⟨g,j*6+2,none⟩=some (.string n))(h5:w.cell? ⟨g,j*6+5,none⟩=some u)(hu:kd=1->∀u',t n=some u'->u=u'):X.cell? ⟨g,j*6+5,none⟩=some u:=by
 obtain⟨c,h1,h3⟩:=h.sel g cur fr hg;rw[Ac hg]at h0 h2 h5;rw[Ac h1];rcases h3.2 (j*6+5)with e|⟨j',n',u',e,e1,e2,e3,e4⟩
 ·exact e.trans h5
 ·have ej:j'=j:=by omega
  subst ej;rw[h0]at e1;rw[h2]at e2;cases e1;cases e2;rw[e4,hu rfl u' e3]
end
open Go.Maps Tryz
structure JF(w:World)(B0 k i:Nat)(P:Ai)(a:Option Addr)(cap:Nat):Prop where
 b:w.heap[k]?=some (.cells #[.string P.typ,.int .i64 i,.slice a P.sels.length cap] 171 (0,0))
 l:P.sels.length<=1000
 s:∀t x,P.sels[t]?=some x->∃g cur f,a=some ⟨g,0,none⟩/\w.heap[g]?=some (.cells cur 177 (0,0))/\B0<=g/\w.cell? ⟨g,t*6,none⟩=some (.int .i64 x.kind)/\w.cell? ⟨g,t*6+2,none⟩=some (.string x.name)/\w.cell? ⟨g,t*6+5,none⟩=some (.pointer f)
theorem JF.lk{t:vD->Option Value}{w X:World}{B0 k i cap:Nat}{P:Ai}{a:Option Addr}(h:JF w B0 k i P a cap)(hl:Lk t B0 w X)(ht:∀n u,t n=some u->∃f,u=.pointer f):JF X B0 k i P a cap:=by
 refine⟨hl.at h.b (by decide),h.l,fun t' x hx=>?_⟩;obtain⟨g,cur,f,e,h1,h2,h3,h4,h5⟩:=h.s t' x hx;obtain⟨cur',g1,g2⟩:=hl.sel g cur _ h1;obtain⟨f',hf'⟩:∃f',X.cell? ⟨g,t'*6+5,none⟩=some (.pointer f'):=by
  rw[Ac g1];rcases g2.2 (t'*6+5)with q|⟨j,n,u,q,_,_,q3,q4⟩
  ·exact⟨f,by rw[q,<-Ac h1];exact h5⟩
  ·obtain⟨f'',rfl⟩:=ht n u q3
   exact⟨f'',q4⟩
 exact⟨g,cur',f',e,g1,h2,(hl.cell h1 (fun j=>by omega)).trans h3,(hl.cell h1 (fun j=>by omega)).trans h4,hf'⟩
theorem Sl{fr:List CS}{pp:List Nat}(n:vD)(u:Value)(h:tg fr pp n=some u):∃f,u=.pointer f:=by
 unfold tg at h;obtain⟨p,_,rfl⟩:=uY.1 h;exact⟨_,rfl⟩
def ID(X:World)(t:vD->Option Value)(P:Ai)(a:Option Addr)(m:Nat):Prop:=∀j x g,j<m->P.sels[j]?=some x->a=some ⟨g,0,none⟩->x.kind=1->∀u,t x.name=some u->X.cell? ⟨g,j*6+5,none⟩=some u
section
variable {w:World} {B0 q k i cap M nM cF:Nat} {P:Ai} {a aF:Option Addr} {vO vP:Value} {fr:List CS} {pp:List Nat} {D:DataW Unit}
theorem iX(hp:JF w B0 k i P a cap)(hq:w.heap[q]?=some (.cells #[vO,.slice aF fr.length cF,vP] 80 (0,0)))(hf:w.ownsRow B0 112 2 (.slice aF fr.length cF) fr.length (fr.flatMap (Hl pp)))(hm:BP w M nM D)(hpm:PM (fr.map Prod.fst) D)(hnd:(fr.map Prod.fst).Nodup)(hnm:∀x∈P.sels,x.name.size<=4000):
 Calls prog 40 #[.pointer (some ⟨q,0,none⟩),.pointer (some ⟨k,0,none⟩),.map (some M)] w fun e w'=>e=.returned (.tuple #[])/\Lk (tg fr pp) B0 w w'/\ID w' (tg fr pp) P a P.sels.length:=by
 have HP:=Aa hp;have HF:=Aa hf;have HM:=Aa hm;have HPM:=Aa hpm;have HND:=Aa hnd;have HNM:=Aa hnm;have HQB:=Aa hq;have hk:=hp.b;have ck:=Ac hk;have lk:=Ab hk;have hpl:=hp.l;clear hp hf hm hpm hnd hnm hq hk;go_enter func40,ntmps40;go_wp2_with fail;go_loopg [6,7,8,9,15] P.sels.length (fun m v6 v7 v8 v9 v15 wr=>∃(t:Nat),v15=.int .i64 t/\t<=P.sels.length/\P.sels.length-t<=m/\Lk (tg fr pp) B0 w wr/\ID wr (tg fr pp) P a t)
 case atStart=>exact⟨0,rfl,tU _,tL _,Lk.refl,fun j x g hj=>absurd hj (Nat.not_lt_zero _)⟩
 case round=>
  obtain⟨t,rfl,htl,htm,hl,hd⟩:=hrel;have HL:=Aa hl;have HD:=Aa hd;by_cases hlt:t<P.sels.length
  ·have hx:=tN hlt
   have hmem:P.sels[t]∈P.sels:=List.getElem_mem hlt;generalize P.sels[t]=x at hx hmem;have pr:=HP.o.lk hl Sl;obtain⟨g,cur,f,rfl,hg,hBg,x0,x2,x5⟩:=pr.s t x hx;have hk:=pr.b;have ck':=Ac hk;have lk':=Ab hk;have hlg:=Ab hg;have fg:=Am hg;have hkey:=Ho x.name (HNM.o x hmem);have HDN:=Aa (fun(Y:World) (hY:Lk (tg fr pp) B0 wr Y) (h5:x.kind=1->∀u,tg fr pp x.name=some u->Y.cell? ⟨g,t*6+5,none⟩=some u)=>(show ID Y (tg fr pp) P (some ⟨g,0,none⟩) (t+1)from fun j y g' hj hy eg hky u hu=>by
    have eg':g=g':=by cases eg;rfl
    subst eg';by_cases ej:j=t
    ·subst ej
     rw[hx]at hy;cases hy;exact h5 hky u hu
    ·obtain⟨g2,cur2,f2,e2,hg2,_,y0,y2,_⟩:=pr.s j y hy
     cases e2;exact hY.fin hg2 y0 y2 (HD.o j y g (by omega) hy rfl hky u hu) (fun _ u' hu'=>tY (hu.symm.trans hu'))))
   by_cases hk1:x.kind=1
   ·have T1:((x.kind:Int)!=1)=false:=by simp;omega
    have e1:(x.kind:Int)=1:=by omega
    have hown:=(show BP wr M nM D from by
     obtain⟨es,clock,m1,m2,m3,m4⟩:=HM.o;exact⟨es,clock,hl.oth _ _ m1 (fun _ _ e=>by cases e),m2,m3,m4⟩)
    have hhas:=HPM.o.hasP x.name;have htg:tg fr pp x.name=(Ij fr x.name).map (fun p=>AM pp (some p)):=rfl;by_cases hneg:Ae (fr.map Prod.fst) x.name<0
    ·rw[show AS x.name (fr.map Prod.fst)=false from Nl _ _ (fun e=>by have:=LC _ _ e;omega)]at hhas
     have HTN:=Aa (show tg fr pp x.name=none from by rw[htg];unfold Ij;rw[uC hneg];rfl);have HDF:=Aa (HDN.o wr Lk.refl (fun _ u hu=>by rw[HTN.o]at hu;cases hu));clear htg hneg hd hl pr hk hg hx hmem HDN;go_wp2_with (at_lookup;refine wpList_lookup_own_ok_int _ rfl _ _ 73 rfl 9 3 .i64 Ca underlying73 underlying3 (Gy _) M _ D rfl hown _ _ rfl hkey ?_;intro c hat hwc;rw[hhas]);go_roundg (P.sels.length-(t+1))
     case measure=>omega
     case rel=>exact⟨t+1,by go_num,by omega,tL _,HL.o,HDF.o⟩
    ·obtain⟨j,r,hj,hr,hid,hjl⟩:=Cl Prod.fst fr x.name hneg
     have yQ:x.name∈fr.map Prod.fst:=List.mem_map.2 ⟨r,tO hr,hid⟩;rw[(Fv x.name _).2 yQ]at hhas;obtain⟨j',hj',hjv⟩:=HPM.o.val x.name yQ;have ejj:j'=j:=by have:=LA _ x.name j' HND.o hj';omega
     subst ejj;obtain⟨gF,capF,hvF,hcF⟩:=Cn (hl.own HF.o (by decide)) (fun _=>rfl) j' r hr;have eaF:=(Value.slice.inj hvF).1;subst eaF;obtain⟨fp,hfp⟩:∃fp,AM pp (some r.2)=.pointer fp:=⟨_,rfl⟩;have y1:wr.cell? ⟨gF,j'*2+1,none⟩=some (.pointer fp):=by rw[hcF 1 _ rfl,hfp]
     have hlF:gF<wr.heap.size:=tR wr _ y1;have hq':=hl.at HQB.o (by decide);have cq':=Ac hq';have lq':=Ab hq';have HTS:=Aa (show tg fr pp x.name=some (.pointer fp)from by rw[htg];unfold Ij;rw[uB hneg,hj];simp[hr,hfp]);have c0:cur[t*6]?=some (.int .i64 1):=by rw[<-Ac hg,x0,e1]
     have c2:cur[t*6+2]?=some (.string x.name):=by rw[<-Ac hg,x2]
     have hstep:=Lk.set (B0:=B0) (t:=tg fr pp) (j:=t) hg hBg c0 c2 HTS.o;have HLF:=Aa (hl.trans hstep);have hsz5:t*6+5<cur.size:=by
      rcases Nat.lt_or_ge (t*6+5) cur.size with a|a
      ·exact a
      ·rw[Ac hg,Array.getElem?_eq_none a]at x5;cases x5
     have HDF:=Aa (HDN.o _ hstep (fun _ u hu=>by
      rw[HTS.o]at hu;cases hu;rw[Ac (AI hg _ _),Array.getElem?_setIfInBounds];simp[hsz5]))
     have hjI:((j':Nat):Int)<fr.length:=by omega
     clear htg hneg hd hl pr hk hg hx hmem HDN yQ hj' hj hr hid hcF hvF hq' hstep c0 c2;go_wp2_with (at_lookup;refine wpList_lookup_own_ok_int _ rfl _ _ 73 rfl 9 3 .i64 Ca underlying73 underlying3 (Gy _) M _ D rfl hown _ _ rfl hkey ?_;intro c hat hwc;rw[hhas];rw[hjv]at hat;simp only[DataW.lit.injEq,Lit.int.injEq,true_and]at hat;subst hat);go_roundg (P.sels.length-(t+1))
     case measure=>omega
     case rel=>exact⟨t+1,by go_num,by omega,tL _,HLF.o,HDF.o⟩
   ·have T1:((x.kind:Int)!=1)=true:=by simp;omega
    have HDF:=Aa (HDN.o wr Lk.refl (fun h=>absurd h hk1));clear hd hl pr hk hg hx hmem HDN;go_wp2_with fail;go_roundg (P.sels.length-(t+1))
    case measure=>omega
    case rel=>exact⟨t+1,by go_num,by omega,tL _,HL.o,HDF.o⟩
  ·have ht:t=P.sels.length:=by omega
   subst ht;clear hd hl;go_wp2_with fail;go_end0;exact⟨rfl,HL.o,HD.o⟩
end
theorem QG{β:Type}{flat:β->List Value}{size:Nat}(hf:∀x,(flat x).length=size):∀L:List β,(L.flatMap flat).length=L.length*size
 |[]=>by simp
 |x::l=>by rw[List.flatMap_cons,uE,hf,QG hf l,uQ,Nat.succ_mul,Nat.add_comm]
theorem RD{β:Type}{X:World}{B size cap g:Nat}{e:TypeId}{cur:Array Value}{L:List β}{flat:β->List Value}(hf:∀x,(flat x).length=size)(h0:0<size)(hB:B<=g)(hg:X.heap[g]?=some (.cells cur e (0,0)))(hn:L.length<=cap)(hcap:cap<=maxLen)(hs:cur.size=cap*size)(hc:∀j x k u,L[j]?=some x->(flat x)[k]?=some u->cur[j*size+k]?=some u):X.ownsRow B e size (.slice (some ⟨g,0,none⟩) L.length cap) L.length (L.flatMap flat):=by
 refine⟨QG hf L,Or.inr ⟨g,cap,cur,rfl,hB,hg,hn,hcap,hs,?_⟩⟩;apply List.ext_getElem?;intro i;rw[List.getElem?_take];split
 ·rename_i hi
  have hj:i/size<L.length:=(Nat.div_lt_iff_lt_mul h0).2 hi;have hk:i%size<size:=Nat.mod_lt _ h0;have e1:i/size*size+i%size=i:=by rw[Nat.mul_comm];exact Nat.div_add_mod i size
  have hx:=tN hj;have h1:=QD flat size hf L (i/size) (i%size) _ hx hk;have hu:(flat L[i/size])[i%size]?=some ((flat L[i/size])[i%size]'(by rw[hf];exact hk)):=tN _;have h2:=hc _ _ _ _ hx hu;rw[e1]at h1 h2;rw[h1,hu];simpa using h2
 ·rename_i hi
  rw[List.getElem?_eq_none (by rw[QG hf];omega)]
def Cm(Q:Qy):Qy:=⟨Q.ops,Q.frags,Q.parts.map (fun P=>⟨P.typ,P.sels.map (BU Q.frags)⟩)⟩
theorem bZ{fr:List CS}{n:vD}{p m:Nat}(h:Ij fr n=some p)(hf:∀x∈fr,x.2<m):p<m:=by
 unfold Ij at h;split at h
 ·cases h
 ·obtain⟨y,hy,rfl⟩:=uY.1 h
  exact hf y (tO hy)
theorem OB(fr:List CS)(x:Aq):(BU fr x).kind=x.kind/\(BU fr x).key=x.key/\(BU fr x).name=x.name/\(BU fr x).args=x.args/\(BU fr x).conds=x.conds:=by
 unfold BU;split
 ·split<;>exact⟨rfl,rfl,rfl,rfl,rfl⟩
 ·exact⟨rfl,rfl,rfl,rfl,rfl⟩
theorem jC(fr:List CS)(x:Aq)(m:Nat)(hx:∀i,x.part=some i->i<m)(hf:∀y∈fr,y.2<m):∀i,(BU fr x).part=some i->i<m:=by
 intro i hi;unfold BU at hi;split at hi
 ·split at hi
  ·rename_i p hp;cases hi;exact bZ hp hf
  ·exact hx i hi
 ·exact hx i hi
theorem CH.linked{W X:World}{B0 i:Nat}{pp:List Nat}{P:Ai}{fr:List CS}(h:CH W B0 pp i P)(hl:Lk (tg fr pp) B0 W X)(hf:∀x∈fr,x.2<pp.length)(hd:∀k a cap,pp[i]?=some k->W.heap[k]?=some (.cells #[.string P.typ,.int .i64 i,.slice a P.sels.length cap] 171 (0,0))->ID X (tg fr pp) P a P.sels.length):CH X B0 pp i ⟨P.typ,P.sels.map (BU fr)⟩:=by
 obtain⟨k,vS,L,h1,h2,h3,h4,h5,h6,h7⟩:=h.ex;have hll:P.sels.length=L.length:=by rw[<-h4,uP]
 have hst:∀y∈L,Dr X B0 pp.length (BU fr y.1,y.2.1,y.2.2):=fun y hy=>by
  have hk:=OB fr y.1;have o:=h7 y hy;exact⟨by show X.ownsRow _ _ _ _ (BU fr y.1).args.length ((BU fr y.1).args.flatMap aL);rw[hk.2.2.2.1];exact hl.own o.a (by decide),by show X.ownsRow _ _ _ _ (BU fr y.1).conds.length ((BU fr y.1).conds.flatMap cL);rw[hk.2.2.2.2];exact hl.own o.c (by decide),by show(BU fr y.1).args.length<=802;rw[hk.2.2.2.1];exact o.al,by show(BU fr y.1).conds.length<=802;rw[hk.2.2.2.2];exact o.cl,jC fr y.1 _ o.p hf⟩
 refine⟨k,vS,L.map (fun y=>(BU fr y.1,y.2.1,y.2.2)),h1,hl.at h2 (by decide),h3,?_,?_,by simpa using h6,fun x hx=>?_⟩
 ·rw[List.map_map]
  show L.map (fun y=>BU fr y.1)=P.sels.map (BU fr);rw[<-h4,List.map_map];rfl
 ·rcases h5.2 with⟨e,e0⟩|⟨g,cap,cur,hv,hg,hh,hn,hcap,hs,ht⟩
  ·have:L=[]:=tZ e0
   subst this;rw[e];exact uA _ _ _ _
  ·obtain⟨cur',g1,g2⟩:=hl.sel g cur _ hh
   have hdo:=hd k (some ⟨g,0,none⟩) cap h1 (by rw[hll,<-hv];exact h2);rw[hv,<-uP (f:=fun y:SX=>((BU fr y.1,y.2.1,y.2.2):SX))];refine RD (fun _=>rfl) (by decide) hg g1 (by simpa using hn) hcap (g2.1.trans hs) (fun j x c u hx hu=>?_);rw[uD]at hx;obtain⟨y,hy,rfl⟩:=uY.1 hx;obtain⟨g',cap',hv',hc⟩:=Cn h5 (fun _=>rfl) j y hy;rw[hv]at hv';cases hv';have hcc:∀c u,(sL pp y)[c]?=some u->cur[j*6+c]?=some u:=fun c u h=>by rw[<-Ac hh];exact hc c u h
   have hk:=OB fr y.1;have hysel:P.sels[j]?=some y.1:=by rw[<-h4,uD,hy];rfl
   have hjl:j<P.sels.length:=(tP.1 hysel).1
   match c,hu with
   |0,hu=>cases hu;rw[g2.fix _ (fun j'=>by omega)];exact hcc 0 _ (by rw[hk.1];rfl)
   |1,hu=>cases hu;rw[g2.fix _ (fun j'=>by omega)];exact hcc 1 _ (by rw[hk.2.1];rfl)
   |2,hu=>cases hu;rw[g2.fix _ (fun j'=>by omega)];exact hcc 2 _ (by rw[hk.2.2.1];rfl)
   |3,hu=>cases hu;rw[g2.fix _ (fun j'=>by omega)];exact hcc 3 _ rfl
   |4,hu=>cases hu;rw[g2.fix _ (fun j'=>by omega)];exact hcc 4 _ rfl
   |5,hu=>
    cases hu;have h50:=hcc 5 _ rfl;have h00:=hcc 0 _ rfl;have h20:=hcc 2 _ rfl;show cur'[j*6+5]?=some (AM pp (BU fr y.1).part);by_cases hk1:y.1.kind=1
    ·cases hfp:Ij fr y.1.name with
     |none=>
      have e1:BU fr y.1=y.1:=by unfold BU;rw[uC hk1,hfp]
      rw[e1];rcases g2.2 (j*6+5)with q|⟨j',n,u,q,q1,q2,q3,q4⟩
      ·exact q.trans h50
      ·have ej:j'=j:=by omega
       subst ej;have en:n=y.1.name:=by have:=q2.symm.trans h20;cases this;rfl
       rw[en]at q3;unfold tg at q3;rw[hfp]at q3;cases q3
     |some p=>
      have e1:(BU fr y.1).part=some p:=by unfold BU;rw[uC hk1,hfp]
      rw[e1];have:=hdo j y.1 g hjl hysel rfl hk1 (AM pp (some p)) (by unfold tg;rw[hfp];rfl);rw[Ac g1]at this;exact this
    ·have e1:BU fr y.1=y.1:=by unfold BU;rw[uB hk1]
     rw[e1];rcases g2.2 (j*6+5)with q|⟨j',n,u,q,q1,q2,q3,q4⟩
     ·exact q.trans h50
     ·have ej:j'=j:=by omega
      subst ej;have ek:=q1.symm.trans h00;simp only[Option.some.injEq,Value.int.injEq,true_and]at ek;exact absurd (show y.1.kind=1 by omega) hk1
   |c+6,hu=>simp[sL]at hu
 ·obtain⟨y,hy,rfl⟩:=List.mem_map.1 hx
  exact hst y hy
def Kb(Q:Qy):Bool:=decide ((Q.frags.map Prod.fst).Nodup)&&!MN (Cm Q)
theorem RI:∀ps:List Nat,ps.flatMap (fun k=>[pV k])=ps.map pV
 |[]=>rfl
 |x::l=>by rw[List.flatMap_cons,List.map_cons,RI l];rfl
structure SL(Q:Qy):Prop where
 f:∀x∈Q.frags,x.1.size<=4000
 s:∀P∈Q.parts,∀x∈P.sels,x.name.size<=4000
theorem ID.lk{w X:World}{B0 k i cap m:Nat}{t:vD->Option Value}{P:Ai}{a:Option Addr}(h:ID w t P a m)(hp:JF w B0 k i P a cap)(hl:Lk t B0 w X):ID X t P a m:=fun j x g hj hx ha hk u hu=>by
 obtain⟨g',cur,f,e,h1,_,y0,y2,_⟩:=hp.s j x hx;have eg:g'=g:=by rw[e]at ha;cases ha;rfl
 subst eg;exact hl.fin h1 y0 y2 (h j x g' hj hx ha hk u hu) (fun _ u' hu'=>tY (hu.symm.trans hu'))
theorem CH.lnk{w:World}{B0 i k:Nat}{pp:List Nat}{P:Ai}(h:CH w B0 pp i P)(hk:pp[i]?=some k):∃a cap,JF w B0 k i P a cap:=by
 obtain⟨k',vS,L,h1,h2,h3,h4,h5,h6,h7⟩:=h.ex;have e:k'=k:=by rw[hk]at h1;exact(tY h1).symm
 subst e;obtain⟨a,cap,rfl⟩:=An h5;have hl:P.sels.length=L.length:=by rw[<-h4,uP]
 refine⟨a,cap,by rw[hl];exact h2,by omega,fun t x hx=>?_⟩;rw[<-h4,uD]at hx;obtain⟨y,hy,rfl⟩:=uY.1 hx;obtain⟨g,cap',hv,hc⟩:=Cn h5 (fun _=>rfl) t y hy;have ea:=(Value.slice.inj hv).1;obtain⟨cur,hcur⟩:=Fx h5 g (by rw[ea];rfl);obtain⟨f,hf⟩:∃f,AM pp y.1.part=.pointer f:=by
  cases y.1.part with
  |none=>exact⟨_,rfl⟩
  |some i=>exact⟨_,rfl⟩
 exact⟨g,cur,f,ea,hcur,(h5.lt g (by rw[ea];rfl)).1,by simpa using hc 0 _ rfl,hc 2 _ rfl,by rw[hc 5 _ rfl,hf]⟩
theorem Lk.ft{t:vD->Option Value}{B0:Nat}{w X:World}(h:Lk t B0 w X):FT B0 [177] w X:=⟨h.os,h.tape,h.output,h.size,h.low,fun k o hk ht=>h.oth k o hk (fun cs fr e=>ht cs _ fr e (List.mem_singleton_self _))⟩
section
variable {w:World} {B0 q:Nat} {Q:Qy} {ps:List Nat}
theorem iY(h:EQ w B0 q Q ps)(hnm:SL Q)(hBw:B0<=w.heap.size):
 Calls prog 21 #[.pointer (some ⟨q,0,none⟩)] w fun e w'=>e=.returned (.bool (Kb Q))/\FT B0 [177] w w'/\(Kb Q=true->EQ w' B0 q (Cm Q) ps):=by
 obtain⟨vO,vF,vP,LO,h1,h2,h3,h4,h5,h6⟩:=h.ex;obtain⟨aP,cP,rfl⟩:=An h2;obtain⟨aF,cF,rfl⟩:=An h6;have hl3:=h.l3;have hl2:=h.l2;have hmm:=Nm;have cq:=Ac h1;have lq:=Ab h1;have HH:=Aa h;have HNM:=Aa hnm;have HFR:=Aa h6;have HPS:=Aa h2;have HQB:=Aa h1;have HQ:=Aa (Kb.eq_1 Q);generalize Kb Q=FF at*;clear h h1 h2 h3 h4 h5 h6 hnm;go_enter func21,ntmps21;go_wp2_with fail;go_loopg [4,5,19] Q.frags.length (fun m v4 v5 v19 wr=>∃(t:Nat) (D:DataW Unit),v19=.int .i64 t/\t<=Q.frags.length/\Q.frags.length-t<=m/\BP wr w.heap.size t D/\PM ((Q.frags.map Prod.fst).take t) D/\vE w wr)
 case atStart=>exact⟨0,.map [],rfl,tU _,tL _,World.ownsMap_made _ _ _ _,PM.nil,(tM _ _).alloc (tL _) _⟩
 case round=>
  obtain⟨t,D,rfl,htl,htm,hown,hpm,hb⟩:=hrel;have HPM:=Aa hpm;have HB:=Aa hb;have hbz:=hb.size;by_cases hlt:t<Q.frags.length
  ·have hx:=tN hlt
   have hmem:Q.frags[t]∈Q.frags:=List.getElem_mem hlt;generalize Q.frags[t]=x at hx hmem;obtain⟨g,cap',hv,hc⟩:=Cn HFR.o (fun _=>rfl) t x hx;have ea:=(Value.slice.inj hv).1;subst ea;obtain⟨fp,hfp⟩:∃fp,AM ps (some x.2)=.pointer fp:=⟨_,rfl⟩;have x0:wr.cell? ⟨g,t*2,none⟩=some (.string x.1):=Ah hb (by simpa using hc 0 _ rfl);have x1:wr.cell? ⟨g,t*2+1,none⟩=some (.pointer fp):=Ah hb (by rw[hc 1 _ rfl,hfp]);have hlg:g<wr.heap.size:=tR wr _ x0;have hkey:=Ho x.1 (HNM.o.f x hmem);have hwf:(Lit.int .i64 (t:Int)).wf=true:=WalkArith.wf_i64 (by omega);have hown1:BP (wr.alloc (.cells #[.string x.1,.pointer fp] 112)) w.heap.size t D:=hown.alloc _;have HBA:=Aa (hb.alloc hbz (.cells #[.string x.1,.pointer fp] 112));have HPN:=Aa (show PM ((Q.frags.map Prod.fst).take (t+1)) (D.put (kl x.1) (.lit (.int .i64 t)))from by
    have:=HPM.o.snoc x.1;rw[List.length_take,uP,Nat.min_eq_left htl]at this;rw[uG,uD,hx];exact this)
   clear hown hpm hb hc hv hx hmem;go_wp2_with (at_mapUpdate;refine wpList_mapUpdate_own _ rfl _ _ _ 73 rfl 9 3 Ca underlying73 _ w.heap.size t D rfl hown1 (by unfold maxLen;omega) _ _ _ rfl rfl hkey _ [] (plainElem_int underlying3 hwf) ?_;intro w2 vM hgrow2);have HB2:=Aa (HBA.o.grown hgrow2 HBA.o.size (fun j hj=>by cases hj;exact tL _));have HO2:=Aa vM;clear hown1 hgrow2 vM;go_wp2_with fail;go_roundg (Q.frags.length-(t+1))
   case measure=>omega
   case rel=>exact⟨t+1,_,by go_num,by omega,tL _,HO2.o,HPN.o,HB2.o⟩
  ·have ht:t=Q.frags.length:=by omega
   subst ht;have hpm':PM (Q.frags.map Prod.fst) D:=by have:=hpm;rwa [tW (by simp)]at this
   have cq':=fun k=>(hb.cell (p:=⟨q,k,none⟩) lq).trans (cq k);have lq':q<wr.heap.size:=tV lq hbz;have HO:=Aa hown;have HPM':=Aa hpm';clear hpm hpm' hb HPM;have hl0:∀ty,(Builtin.len_ #[73] ty #[.map (some w.heap.size)]).run prog wr=.ok (.int .i64 (Maps.size D)) wr:=fun ty=>HO.o.len underlying73 ty;have hl1:∀ty,(Builtin.len_ #[73] ty #[.map (some w.heap.size)]).run prog wr.drew=.ok (.int .i64 (Maps.size D)) wr.drew:=fun ty=>(show BP wr.drew w.heap.size _ D from HO.o).len underlying73 ty;obtain⟨sz,hsz⟩:∃sz:Nat,sz=Maps.size D:=⟨_,rfl⟩;rw[<-hsz]at hl0 hl1;have hT:((sz:Int)!=(Q.frags.length:Int))=!decide ((Q.frags.map Prod.fst).Nodup):=by
    have:=HPM'.o.eq;rw[uP,<-hsz]at this;rw[Bool.eq_iff_iff];simp only[bne_iff_ne,ne_eq,Bool.not_eq_true',decide_eq_false_iff_not];rw[<-this];omega
   obtain⟨nb,hnb⟩:∃nb:Bool,nb=decide ((Q.frags.map Prod.fst).Nodup):=⟨_,rfl⟩;rw[<-hnb]at hT;have HNB:=Aa hnb;have HSZ:=Aa hsz;clear hnb hsz hown;go_upto_region 7 with fail;go_cut [36] (fun v36 wc=>v36=.bool (!nb)/\wc.heap=wr.heap/\vE w wc)
   case first=>
    go_region;all_goals(
     go_wp2_with fail;go_meet;exact⟨rfl,rfl,by first|exact HB.o|exact HB.o.drew⟩)
   case rest=>
   obtain⟨rfl,hheap,hb⟩:=hcut;have HB2:=Aa hb;have hq2:=(hb.block _ lq).trans HQB.o;have cq2:=Ac hq2;have lq2:=Ab hq2;have hO2:BP wc w.heap.size Q.frags.length D:=by
    obtain⟨es,clock,m1,m2,m3,m4⟩:=HO.o;exact⟨es,clock,by rw[hheap];exact m1,m2,m3,m4⟩
   have HO2:=Aa hO2;have HH2:=Aa (HH.o.below hb);have HQB2:=Aa hq2;have HFR2:=Aa (AT HFR.o hb);have HPS2:=Aa (AT HPS.o hb);have hBc:B0<=wc.heap.size:=tQ hBw hb.size;clear hb hheap hO2 hq2 cq' lq' hl0 hl1 hT HO HB HH HQB HFR HPS cq lq hbz;obtain⟨wm,rfl⟩:∃wm:World,wm=wc:=⟨_,rfl⟩;cases nb
   ·have HF:=Aa (show FF=false from by rw[HQ.o,<-HNB.o];rfl)
    go_wp2_with fail;go_ret;rw[HF.o];exact⟨rfl,FT.of_below HB2.o hBw,fun e=>by cases e⟩
   ·have hnd:(Q.frags.map Prod.fst).Nodup:=of_decide_eq_true HNB.o.symm
    have HND:=Aa hnd;have HQ2:=Aa (show FF=!MN (Cm Q)from by rw[HQ.o,<-HNB.o];rfl);have HN:=Aa HH2.o.n;clear HQ hnd;go_wp2_with fail;go_loopg [7,42] ps.length (fun m v7 v42 wr=>∃(t:Nat),v42=.int .i64 t/\t<=ps.length/\ps.length-t<=m/\Lk (tg Q.frags ps) B0 wm wr/\∀i' P k a cap,i'<t->Q.parts[i']?=some P->ps[i']?=some k->JF wm B0 k i' P a cap->ID wr (tg Q.frags ps) P a P.sels.length)
    case atStart=>exact⟨0,rfl,tU _,tL _,Lk.refl,fun i' P k a cap h=>absurd h (Nat.not_lt_zero _)⟩
    case round=>
     obtain⟨t,rfl,htl,htm,hl,hdn⟩:=hrel;have HL:=Aa hl;have HDN:=Aa hdn;by_cases hlt:t<ps.length
     ·have hk:=tN hlt
      generalize ps[t]=k at hk;have hlt':t<Q.parts.length:=by have:=HN.o;omega
      have hP:=tN hlt';have hmem:Q.parts[t]∈Q.parts:=List.getElem_mem hlt';generalize Q.parts[t]=P at hP hmem;have hpt:=HH2.o.pt t P hP;rw[Nat.zero_add]at hpt;obtain⟨a,cap,hln⟩:=hpt.lnk hk;have hps:wr.ownsRow B0 89 1 (.slice aP ps.length cP) ps.length (ps.flatMap (fun k=>[pV k])):=by
       rw[RI];exact hl.own HPS2.o (by decide)
      obtain⟨gP,capP,hvP,hcP⟩:=Cn hps (fun _=>rfl) t k hk;have eaP:=(Value.slice.inj hvP).1;subst eaP;have y0:wr.cell? ⟨gP,t,none⟩=some (.pointer (some ⟨k,0,none⟩)):=by simpa [pV]using hcP 0 _ rfl
      have hlP:gP<wr.heap.size:=tR wr _ y0;have hOr:BP wr w.heap.size Q.frags.length D:=by
       obtain⟨es,clock,m1,m2,m3,m4⟩:=HO2.o;exact⟨es,clock,hl.oth _ _ m1 (fun _ _ e=>by cases e),m2,m3,m4⟩
      have HC:=Aa (iX (hln.lk hl Sl) (hl.at HQB2.o (by decide)) (hl.own HFR2.o (by decide)) hOr HPM'.o HND.o (HNM.o.s P hmem));have HNX:=Aa (fun(Y:World) (hY:Lk (tg Q.frags ps) B0 wr Y) (hdY:ID Y (tg Q.frags ps) P a P.sels.length)=>(show∀i' P' k' a' cap',i'<t+1->Q.parts[i']?=some P'->ps[i']?=some k'->JF wm B0 k' i' P' a' cap'->ID Y (tg Q.frags ps) P' a' P'.sels.length from fun i' P' k' a' cap' hi hP' hk' yJ=>by
       by_cases ei:i'=t
       ·subst ei
        rw[hP]at hP';cases hP';rw[hk]at hk';cases hk';have e:=hln.b.symm.trans yJ.b;simp only[Option.some.injEq,Obj.cells.injEq]at e;have e1:=e.1;have e2:a=a':=by
         have:=congrArg (fun z:Array Value=>z[2]?) e1;simp at this;exact this.1
        subst e2;exact hdY
       ·exact(HDN.o i' P' k' a' cap' (by omega) hP' hk' yJ).lk (yJ.lk hl Sl) hY))
      clear hps hcP hvP hOr hln hpt hP hmem hk hl hdn;go_wp2_with fail;refine HC.o.mono ?_;rintro _ w5 ⟨rfl,l5,d5⟩;have HX:=Aa (uV (HL.o.trans l5) (HNX.o w5 l5 d5));clear l5 d5 HC HNX;go_wp2_with fail;go_roundg (ps.length-(t+1))
      case measure=>omega
      case rel=>exact⟨t+1,by go_num,by omega,tL _,HX.o.1,HX.o.2⟩
     ·have ht:t=ps.length:=by omega
      subst ht;have HQL:=Aa (show EQ wr B0 q (Cm Q) ps from by
       obtain⟨vO',vF',vP',LO',g1,g2,g3,g4,g5,g6⟩:=HH2.o.ex;refine⟨⟨vO',vF',vP',LO',hl.at g1 (by decide),hl.own g2 (by decide),g3,hl.own g4 (by decide),fun x hx=>⟨hl.own (g5 x hx).v (by decide),(g5 x hx).l,(g5 x hx).p⟩,hl.own g6 (by decide)⟩,HH2.o.ff,by rw[HH2.o.n];simp[Cm],fun j P' hj=>?_,HH2.o.lq,HH2.o.l1,HH2.o.l2,HH2.o.l3⟩;have hj':(Q.parts.map (fun P=>(⟨P.typ,P.sels.map (BU Q.frags)⟩:Ai)))[j]?=some P':=hj;rw[uD]at hj';obtain⟨P,hP,rfl⟩:=uY.1 hj';have hpt:=HH2.o.pt j P hP;refine hpt.linked hl HH2.o.ff (fun k a cap hk hkb=>?_);rw[Nat.zero_add]at hk hkb hpt;obtain⟨a',cap',hln⟩:=hpt.lnk hk;have e:=hln.b.symm.trans hkb;simp only[Option.some.injEq,Obj.cells.injEq]at e;have e2:a'=a:=by
        have:=congrArg (fun z:Array Value=>z[2]?) e.1;simp at this;exact this.1
       subst e2;exact hdn j P k a' cap' (Fu hk) hP hk hln)
      have HC:=Aa (ZN HQL.o);generalize MN (Cm Q)=cb at*;clear hl hdn;go_wp2_with fail;refine HC.o.mono ?_;rintro _ w5 ⟨rfl,b5⟩;have HB5:=Aa (show FT B0 [177] w w5 from((FT.of_below HB2.o hBw).trans HL.o.ft).bt b5 hBw);have HQ5:=Aa (HQL.o.below b5);clear b5 HC HQL;go_wp2_with fail;go_ret;rw[HQ2.o];exact⟨rfl,HB5.o,fun _=>HQ5.o⟩
end
end Go.Proofs.YtadneapobijejaaGreatDoor
