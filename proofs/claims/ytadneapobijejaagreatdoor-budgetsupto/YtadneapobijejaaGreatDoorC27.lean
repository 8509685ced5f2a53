import Derived.Test.YtadneapobijejaaGreatDoorC26
namespace Go.Proofs.YtadneapobijejaaGreatDoor
set_option maxHeartbeats 20000000
set_option maxRecDepth 100000
open Go.RowKit Tryz
open Go.Maps Tryz
def Fl(given:AL):List DS->AL->Option AL
 |[],acc=>some acc
 |x::r,acc=>if (BF acc x.name).isSome=true then none else if Md x=false then none else if Dm (Ga given x) x.scalar x.strict=false then none else Fl given r ((x.name,Ga given x)::acc)
def Hu(Q:Qy):List DS:=match Q.ops with
 |[]=>[]
 |o::_=>o.1
structure SB(Q:Qy):Prop where
 v:∀x∈Hu Q,x.name.size<=4000/\x.dflt.1≠9
 a:∀P∈Q.parts,∀x∈P.sels,∀y∈x.args,y.2.1=9->y.2.2.2.size<=4000
 c:∀P∈Q.parts,∀x∈P.sels,∀y∈x.conds,y.2.1=9->y.2.2.2.size<=4000
theorem N9.nil:N9 []:=fun t v h=>by simp[BF]at h
theorem N9.cons{l:AL}{x:vD}{v:PV}(h:N9 l)(hv:v.1≠9):N9 ((x,v)::l):=fun t u hu=>by
 rw[BF]at hu;split at hu
 ·cases hu;exact hv
 ·exact h t u hu
theorem sU{given:AL}{x:DS}(h:N9 given)(hx:x.dflt.1≠9):(Ga given x).1≠9:=by
 unfold Ga;cases e:BF given x.name with
 |none=>exact hx
 |some v=>exact h _ _ e
theorem sP(x:vD)(v:PV)(l:AL):BF ((x,v)::l) x=some v:=by rw[BF,uC rfl]
theorem Bd.ft{l:AL}{B0:Nat}{w X:World}(h:Bd l B0 w X):FT B0 kB w X:=⟨h.os,h.tape,h.output,h.size,h.low,h.oth⟩
section
variable {w:World} {B0 q Mg ng:Nat} {Q:Qy} {ps:List Nat} {Dg:DataW Unit} {given:AL}
theorem YE(h:EQ w B0 q Q ps)(ho:Q.ops≠[])(hz:SB Q)(hgm:BQ w Mg ng Dg)(hgv:VM Dg given)(hg9:N9 given)(hBw:B0<=w.heap.size):
 Calls prog 22 #[.pointer (some ⟨q,0,none⟩),.map (some Mg)] w fun e w'=>e=.returned (.bool (Fl given (Hu Q) []).isSome)/\FT B0 kB w w'/\∀l,Fl given (Hu Q) []=some l->EQ w' B0 q (Ds l Q) ps:=by
 obtain⟨vO,vF,vP,LO,h1,h2,h3,h4,h5,h6⟩:=h.ex;obtain⟨o0,LO',rfl⟩:∃o0 LO',LO=o0::LO':=by
  cases LO with
  |nil=>exact absurd h3.symm ho
  |cons o r=>exact⟨o,r,rfl⟩
 obtain⟨aP,cP,rfl⟩:=An h2;have hvs:Hu Q=o0.1.1:=by unfold Hu;rw[<-h3];rfl
 obtain⟨gO,cO,hvO,hcO⟩:=Cn h4 (fun _=>rfl) 0 o0 rfl;subst hvO;have hok:=h5 o0 uX;obtain⟨aV,cV,hvV⟩:=An hok.v;obtain⟨⟨vars,np⟩,vV⟩:=o0;simp only[]at hvV hvs;subst hvV;have y0:w.cell? ⟨gO,0,none⟩=some (.slice aV vars.length cV):=by simpa using hcO 0 _ rfl
 have lO:=tR w _ y0;have hvl:=hok.l;simp only[]at hvl;have HVR:=Aa hok.v;have HZV:=Aa hz.v;rw[hvs]at HZV;rw[hvs];have HZ:=Aa hz;have HH:=Aa h;have HGM:=Aa hgm;have HGV:=Aa hgv;have HG9:=Aa hg9;have HPS:=Aa h2;have cq:=Ac h1;have lq:=Ab h1;have HQB:=Aa h1;have hl3:=h.l3;have hmm:=VF;obtain⟨RES,vH⟩:∃RES,Hi (RES=Fl given vars []):=⟨_,Aa rfl⟩;rw[<-vH.o];have hlo1:0<((((vars,np),Value.slice aV vars.length cV)::LO'):List GY).length:=by simp
 generalize hLOn:((((vars,np),Value.slice aV vars.length cV)::LO'):List GY).length=LOn at*;clear h h1 h2 h3 h4 h5 h6 hok hcO hz hgm hgv hg9 hvs ho hLOn;go_enter func22,ntmps22;go_wp2_with fail;have HB0:=Aa (show vE w (w.alloc (.map #[] 0))from(tM _ _).alloc (tL _) _);have HM0:=Aa (show BQ (w.alloc (.map #[] 0)) w.heap.size 0 (.map [])from World.ownsMap_made w _ _ _);generalize w.alloc (.map #[] 0)=W0 at*;go_loopg [7,8,9,21] vars.length (fun m v7 v8 v9 v21 wr=>∃(t:Nat) (acc:AL) (D:DataW Unit) (n:Nat),v21=.int .i64 t/\t<=vars.length/\vars.length-t<=m/\vE w wr/\BQ wr w.heap.size n D/\n<=t/\VM D acc/\N9 acc/\RES=Fl given (vars.drop t) acc)
 case atStart=>exact⟨0,[],_,0,rfl,tU _,tL _,HB0.o,HM0.o,tL _,VM.nil,N9.nil,vH.o⟩
 case round=>
  obtain⟨t,acc,D,n,rfl,htl,htm,hb,hO,hnt,hV,h9,hrel⟩:=hrel;have HB:=Aa hb;have HO:=Aa hO;have HV:=Aa hV;have H9:=Aa h9;have HM:=Aa hrel;have hbz:=hb.size;have lM:=hO.lt;by_cases hlt:t<vars.length
  ·have hx:=tN hlt
   have hdr:vars.drop t=vars[t]::vars.drop (t+1):=uT hlt;have hmem:vars[t]∈vars:=List.getElem_mem hlt;generalize vars[t]=x at hx hdr hmem;obtain⟨gV,cap',hv',hc⟩:=Cn HVR.o (fun _=>rfl) t x hx;have ea:=(Value.slice.inj hv').1;subst ea;have hzx:=HZV.o x hmem;rw[hdr,Fl]at HM;have hkey:=Ho x.name hzx.1;have hhas:=hV.has x.name;have HGT:=Aa (fun(u:Value) (pl:List MemPlace) (hu:Ff u=some (D.atKey (kl x.name) (EE (0,0,⟨#[]⟩)),pl))=>hV.get hu);generalize Iz acc x.name=gv at*;have x0:wr.cell? ⟨gV,t*7,none⟩=some (.string x.name):=Ah hb (by simpa using hc 0 _ rfl);have x1:wr.cell? ⟨gV,t*7+1,none⟩=some (.string x.scalar):=Ah hb (hc 1 _ rfl);have x2:wr.cell? ⟨gV,t*7+2,none⟩=some (.bool x.strict):=Ah hb (hc 2 _ rfl);have x3:wr.cell? ⟨gV,t*7+3,none⟩=some (.bool x.has):=Ah hb (hc 3 _ rfl);have x4:wr.cell? ⟨gV,t*7+4,none⟩=some (.int .i64 x.dflt.1):=Ah hb (hc 4 _ rfl);have x5:wr.cell? ⟨gV,t*7+5,none⟩=some (.int .i64 x.dflt.2.1):=Ah hb (hc 5 _ rfl);have x6:wr.cell? ⟨gV,t*7+6,none⟩=some (.string x.dflt.2.2):=Ah hb (hc 6 _ rfl);have hlg:gV<wr.heap.size:=tR wr _ x0;have hO1:BQ (wr.alloc (.cells #[.string x.name,.string x.scalar,.bool x.strict,.bool x.has,.int .i64 x.dflt.1,.int .i64 x.dflt.2.1,.string x.dflt.2.2] 118)) w.heap.size n D:=hO.below (bA (tM _ _) _);clear hc hv' hx hdr hmem hb hO hV h9 hrel;obtain⟨tw,HTW⟩:∃tw:Bool,Hi (tw=(BF acc x.name).isSome):=⟨_,Aa rfl⟩;rw[<-HTW.o]at hhas HM;cases tw
   ·have HM2:=Aa (show RES=if Md x=false then none else if Dm (Ga given x) x.scalar x.strict=false then none else Fl given (vars.drop (t+1)) ((x.name,Ga given x)::acc)from HM.o)
    clear HM;go_wp2_with (at_lookup;refine wpList_lookup_own_ok _ rfl _ _ 66 rfl 9 116 Ca underlying66 Ff (Km _) (EE (0,0,⟨#[]⟩)) [] (Jc _) w.heap.size n D rfl hO1 _ _ rfl hkey ?_;intro uv pl huv;rw[hhas];have euv:=HGT.o uv pl huv;unfold GP at euv;subst euv);have hN2:((wr.alloc (.cells #[.string x.name,.string x.scalar,.bool x.strict,.bool x.has,.int .i64 x.dflt.1,.int .i64 x.dflt.2.1,.string x.dflt.2.2] 118)).alloc (.cells #[.int .i64 gv.1,.int .i64 gv.2.1,.string gv.2.2] 116)).heap[wr.heap.size]?=some (.cells #[.string x.name,.string x.scalar,.bool x.strict,.bool x.has,.int .i64 x.dflt.1,.int .i64 x.dflt.2.1,.string x.dflt.2.2] 118 (0,0)):=Lg wr _ _;have hB2:vE w ((wr.alloc (.cells #[.string x.name,.string x.scalar,.bool x.strict,.bool x.has,.int .i64 x.dflt.1,.int .i64 x.dflt.2.1,.string x.dflt.2.2] 118)).alloc (.cells #[.int .i64 gv.1,.int .i64 gv.2.1,.string gv.2.2] 116)):=(HB.o.alloc hbz _).alloc (by simp;omega) _;have hO2:BQ ((wr.alloc (.cells #[.string x.name,.string x.scalar,.bool x.strict,.bool x.has,.int .i64 x.dflt.1,.int .i64 x.dflt.2.1,.string x.dflt.2.2] 118)).alloc (.cells #[.int .i64 gv.1,.int .i64 gv.2.1,.string gv.2.2] 116)) w.heap.size n D:=HO.o.below (IY wr _ _);generalize (wr.alloc (.cells #[.string x.name,.string x.scalar,.bool x.strict,.bool x.has,.int .i64 x.dflt.1,.int .i64 x.dflt.2.1,.string x.dflt.2.2] 118)).alloc (.cells #[.int .i64 gv.1,.int .i64 gv.2.1,.string gv.2.2] 116)=W2 at*;generalize hk7:wr.heap.size=k7 at*;have HR:=Aa (qH hN2);generalize Md x=rb at*;refine HR.o.mono ?_;rintro _ w3 ⟨rfl,b3⟩;have hN3:=(b3.block _ (Ab hN2)).trans hN2;have HN3:=Aa hN3;have HB3:=Aa (hB2.trans (b3.mono hB2.size));have HO3:=Aa (hO2.below b3);have c3:=Ac hN3;have l3:=Ab hN3;clear hN2 hB2 hO2 b3 HR hN3 x0 x1 x2 x3 x4 x5 x6 hlg hO1 hk7;cases rb
    ·have HE:=Aa (show RES=none from HM2.o)
     go_wp2_with fail;go_ret;rw[HE.o];exact⟨rfl,FT.of_below HB3.o hBw,fun l e=>by cases e⟩
    ·have HM3:=Aa (show RES=if Dm (Ga given x) x.scalar x.strict=false then none else Fl given (vars.drop (t+1)) ((x.name,Ga given x)::acc)from HM2.o)
     have hv9:=sU (x:=x) HG9.o hzx.2;have HVA:=Aa (fun W (hW:vE w3 W)=>sV ((hW.block _ l3).trans HN3.o) ((HGM.o.below (HB3.o)).below hW) HGV.o hzx.1);generalize Ga given x=vv at*;clear HM2;go_upto_region 8 with fail;go_cut [] (fun wc=>∃D',vE w wc/\BQ wc w.heap.size (n+1) D'/\VM D' ((x.name,vv)::acc)/\wc.heap[k7]?=some (.cells #[.string x.name,.string x.scalar,.bool x.strict,.bool x.has,.int .i64 x.dflt.1,.int .i64 x.dflt.2.1,.string x.dflt.2.2] 118 (0,0)))
     case first=>
      go_region_with (go_at_call 43;refine(HVA.o _ ?_).mono ?_;(first|exact(tM _ _).drew|exact tM _ _);rintro _ w5 ⟨rfl,b5⟩;have bb5:vE w3 w5:=(by first|exact b5|exact(tM w3.heap.size w3).drew.trans b5);have hN5:=(bb5.block _ l3).trans HN3.o;have c5:=Ac hN5;have l5:=Ab hN5;have hO5:=HO3.o.below bb5;obtain⟨w6,hrun6,wM,xI⟩:=World.ownsMap.store hO5 Ca underlying66 (by unfold maxLen;omega) hkey (Jc vv);unfold GP at hrun6);all_goals(
       have HX:=Aa (uV (show vE w w6 from(HB3.o.trans (bb5.mono HB3.o.size)).grown xI.grown (tQ HB3.o.size bb5.size) (fun j hj=>by cases hj;exact tL _)) (uV wM (uV (HV.o.put x.name vv) ((xI.grown.block k7 l5 (fun e=>by have:=tY e;omega)).trans hN5))));clear xI wM hO5 hN5 bb5 b5;go_wp2_with fail;go_meet;exact⟨_,HX.o.1,HX.o.2.1,HX.o.2.2.1,HX.o.2.2.2⟩)
     case rest=>
     obtain⟨D',hb4,hO4,hV4,hN4⟩:=hcut;obtain⟨uv,pl,hrun4,huv⟩:=World.ownsMap.lookup hO4 Ca underlying66 (Km _) (Jc (0,0,⟨#[]⟩)) hkey;have euv:=hV4.get huv;rw[show Iz ((x.name,vv)::acc) x.name=vv from by unfold Iz;rw[sP];rfl]at euv;unfold GP at euv;subst euv;have c4:=Ac hN4;have l4:=Ab hN4;have HB4:=Aa hb4;have HO4:=Aa hO4;have HV4:=Aa hV4;have HF:=Aa (fun W=>MU W vv x.scalar x.strict);have HN9:=Aa (H9.o.cons (x:=x.name) hv9);generalize Dm vv x.scalar x.strict=fb at*;clear hb4 hO4 hV4 hN4 huv HVA HB3 HO3 HN3 c3 l3 hhas HGT hv9;go_wp2_with fail;refine(HF.o _).mono ?_;rintro _ w5 ⟨rfl,b5⟩;have HB5:=Aa (HB4.o.trans (b5.mono HB4.o.size));have HO5:=Aa (HO4.o.below b5);clear b5 HF;cases fb
     ·have HE:=Aa (show RES=none from HM3.o)
      go_wp2_with fail;go_ret;rw[HE.o];exact⟨rfl,FT.of_below HB5.o hBw,fun l e=>by cases e⟩
     ·have HE:=Aa (show RES=Fl given (vars.drop (t+1)) ((x.name,vv)::acc)from HM3.o)
      go_wp2_with fail;go_roundg (vars.length-(t+1))
      case measure=>omega
      case rel=>exact⟨t+1,_,D',n+1,by go_num,by omega,tL _,HB5.o,HO5.o,by omega,HV4.o,HN9.o,HE.o⟩
   ·have HE:=Aa (show RES=none from HM.o)
    go_wp2_with (at_lookup;refine wpList_lookup_own_ok _ rfl _ _ 66 rfl 9 116 Ca underlying66 Ff (Km _) (EE (0,0,⟨#[]⟩)) [] (Jc _) w.heap.size n D rfl hO1 _ _ rfl hkey ?_;intro uv pl huv;rw[hhas];have euv:=HGT.o uv pl huv;unfold GP at euv;subst euv);go_ret;rw[HE.o];refine⟨rfl,FT.of_below ?_ hBw,fun l e=>by cases e⟩;exact(HB.o.alloc hbz _).alloc (by simp;omega) _
  ·have ht:t=vars.length:=by omega
   subst ht;have HRS:=Aa (show RES=some acc from by rw[HM.o,List.drop_length];rfl);have HH2:=Aa (HH.o.below hb);have cq2:=fun k=>(hb.cell (p:=⟨q,k,none⟩) lq).trans (cq k);have lq2:q<wr.heap.size:=tV lq hbz;have HPS2:=Aa (AT HPS.o hb);have hBr:B0<=wr.heap.size:=tQ hBw hbz;obtain⟨wm,rfl⟩:∃wm:World,wm=wr:=⟨_,rfl⟩;have hall:∀i,∃f:Nat×Option Addr×Nat×List SX,∀P,Q.parts[i]?=some P->ps[i]?=some f.1/\B0<=f.1/\Mp wm B0 f.1 i P.typ ps f.2.1 f.2.2.1 f.2.2.2/\f.2.2.2.map Prod.fst=P.sels:=fun i=>by
    cases hP:Q.parts[i]? with
    |none=>exact⟨(0,none,0,[]),fun P h=>by cases h⟩
    |some P=>
     have hm:=tO hP;have hpt:=HH2.o.pt i P hP;rw[Nat.zero_add]at hpt;obtain⟨k,a,cap,L,h1,h2,h3,h4⟩:=hpt.bp (HZ.o.a P hm) (HZ.o.c P hm);exact⟨(k,a,cap,L),fun P' h=>by cases h;exact⟨h1,h2,h3,h4⟩⟩
   obtain⟨fL,hfL⟩:=Classical.axiomOfChoice hall;have HFL:=Aa hfL;have HN:=Aa HH2.o.n;clear hall hfL hb hO hV h9 hrel HM;go_wp2_with fail;go_loopg [11,58] ps.length (fun m v11 v58 wr=>∃(t:Nat),v58=.int .i64 t/\t<=ps.length/\ps.length-t<=m/\Bd acc B0 wm wr/\∀i,i<t->IE wr acc (fL i).2.2.2 (fL i).2.2.2.length)
   case atStart=>exact⟨0,rfl,tU _,tL _,Bd.refl,fun i h=>absurd h (Nat.not_lt_zero _)⟩
   case round=>
    obtain⟨t,rfl,htl2,htm2,hl,hdn⟩:=hrel;have HL:=Aa hl;have HDN:=Aa hdn;by_cases hlt2:t<ps.length
    ·have hk:=tN hlt2
     generalize ps[t]=k at hk;have hlt3:t<Q.parts.length:=by have:=HN.o;omega
     have hP:=tN hlt3;generalize Q.parts[t]=P at hP;obtain⟨f1,f2,f3,f4⟩:=HFL.o t P hP;have ek:(fL t).1=k:=by rw[hk]at f1;exact(tY f1).symm
     have hps:wr.ownsRow B0 89 1 (.slice aP ps.length cP) ps.length (ps.flatMap (fun k=>[pV k])):=by
      rw[RI];exact hl.own HPS2.o (by decide)
     obtain⟨gP,capP,hvP,hcP⟩:=Cn hps (fun _=>rfl) t k hk;have eaP:=(Value.slice.inj hvP).1;subst eaP;have z0:wr.cell? ⟨gP,t,none⟩=some (.pointer (some ⟨k,0,none⟩)):=by simpa [pV]using hcP 0 _ rfl
     have hlP:gP<wr.heap.size:=tR wr _ z0;rw[ek]at f3;have HC:=Aa (Zx f3 hl H9.o (HO.o.bd hl) HV.o (tQ hBr hl.size));have HNX:=Aa (fun(Y:World) (hY:Bd acc B0 wr Y) (hdY:IE Y acc (fL t).2.2.2 (fL t).2.2.2.length)=>(show∀i,i<t+1->IE Y acc (fL i).2.2.2 (fL i).2.2.2.length from fun i hi=>by
      by_cases e:i=t
      ·subst e;exact hdY
      ·exact(HDN.o i (by omega)).bd H9.o hY))
     clear hps hcP hvP f1 f2 f3 f4 ek hP hk hl hdn;go_wp2_with fail;refine HC.o.mono ?_;rintro _ w5 ⟨rfl,b5,d5⟩;have HX:=Aa (uV (HL.o.trans H9.o b5) (HNX.o w5 b5 d5));clear b5 d5 HC HNX;go_wp2_with fail;go_roundg (ps.length-(t+1))
     case measure=>omega
     case rel=>exact⟨t+1,by go_num,by omega,tL _,HX.o.1,HX.o.2⟩
    ·have ht2:t=ps.length:=by omega
     subst ht2;have HQL:=Aa (show EQ wr B0 q (Ds acc Q) ps from by
      obtain⟨vO',vF',vP',LO2,g1,g2,g3,g4,g5,g6⟩:=HH2.o.ex;refine⟨⟨vO',vF',vP',LO2,hl.at g1 (by decide),hl.own g2 (by decide),g3,hl.own g4 (by decide),fun x hx=>⟨hl.own (g5 x hx).v (by decide),(g5 x hx).l,(g5 x hx).p⟩,hl.own g6 (by decide)⟩,HH2.o.ff,by rw[HH2.o.n];simp[Ds],fun j P' hj=>?_,HH2.o.lq,HH2.o.l1,HH2.o.l2,HH2.o.l3⟩;have hj':(Q.parts.map (fun P=>(⟨P.typ,P.sels.map (Ii acc)⟩:Ai)))[j]?=some P':=hj;rw[uD]at hj';obtain⟨P,hP,rfl⟩:=uY.1 hj';obtain⟨f1,f2,f3,f4⟩:=HFL.o j P hP;rw[Nat.zero_add];exact f3.bound f1 f2 f4 hl (hdn j (Fu f1)))
     have HBF:=Aa (show FT B0 kB w wr from(FT.of_below HB.o hBw).trans hl.ft);clear hl hdn;go_wp2_with fail;go_ret;rw[HRS.o];exact⟨rfl,HBF.o,fun l e=>by cases e;exact HQL.o⟩
end
def TB(s:St):Prop:=∀t∈s.getD [],t.s.size<=4000/\(t.k=1->0<t.s.size)
theorem TB.cut(x:vD):TB (Af x):=fun t ht=>by
 cases h:Af x with
 |none=>rw[h]at ht;simp at ht
 |some ts=>rw[h]at ht;exact((MO x ts h).1 t ht).2.2
theorem TB.none:TB none:=fun t ht=>by simp at ht
section
variable {s:St}
theorem TB.hd(h:TB s):(hd s).s.size<=4000:=by
 cases s with
 |none=>decide
 |some l=>cases l with
  |nil=>decide
  |cons t l=>exact(h t (by simp)).1
theorem TB.tl(h:TB s):TB (tl s):=by
 cases s with
 |none=>exact h
 |some l=>cases l with
  |nil=>exact h
  |cons t l=>exact fun u hu=>h u (uW _ hu)
theorem TB.mustT(h:TB s)(b:Bool):TB (mustT s b):=by
 cases b
 ·exact TB.none
 ·exact h.tl
theorem TB.mayT(h:TB s)(b:Bool):TB (mayT s b):=by
 cases b
 ·exact h
 ·exact h.tl
theorem TB.nm(h:TB s):(nm s).size<=4000:=by
 unfold Go.Proofs.YtadneapobijejaaGreatDoor.nm;split
 ·exact h.hd
 ·decide
theorem TB.nmT(h:TB s):TB (nmT s):=by
 unfold Go.Proofs.YtadneapobijejaaGreatDoor.nmT;split
 ·exact h.tl
 ·exact TB.none
theorem TB.nK(h:TB s)(k:Nat):TB (nK s k):=h.mustT _
theorem TB.nW(h:TB s)(x:vD):TB (nW s x):=h.mustT _
theorem TB.pVal(h:TB s):TB (pVal s):=by
 unfold Go.Proofs.YtadneapobijejaaGreatDoor.pVal;split
 ·exact h.tl
 split
 ·exact h.tl
 split
 ·unfold Jd
  (repeat' split)<;>first|exact h.tl|exact TB.none
 ·exact TB.none
theorem TB.valK(h:TB s):(valK s).2.2.size<=4000/\(valK s).1≠9:=by
 unfold Go.Proofs.YtadneapobijejaaGreatDoor.valK;split
 ·exact⟨(by show(⟨#[]⟩:vD).size<=4000;decide),(by show(1:Nat)≠9;decide)⟩
 split
 ·exact⟨h.hd,(by show(2:Nat)≠9;decide)⟩
 split
 ·refine⟨(by show(⟨#[]⟩:vD).size<=4000;decide),?_⟩
  show Kk _≠9;unfold Kk
  (repeat' split)<;>decide
 ·exact⟨by decide,by decide⟩
theorem TB.qVal(h:TB s):(qVal s).1.2.2.size<=4000/\TB (qVal s).2:=by
 unfold Go.Proofs.YtadneapobijejaaGreatDoor.qVal;split
 ·exact⟨h.tl.nm,h.tl.nmT⟩
 ·exact⟨h.valK.1,h.pVal⟩
theorem TB.qArg(h:TB s):(qArg s).1.2.2.2.size<=4000/\TB (qArg s).2:=((h.nmT).nK 9).qVal
theorem TB.qArgsF:∀(f:Nat) {s:St},TB s->(∀a∈(qArgsF f s).1,a.2.2.2.size<=4000)/\TB (qArgsF f s).2
 |0,s,h=>⟨fun a ha=>by simp[Go.Proofs.YtadneapobijejaaGreatDoor.qArgsF]at ha,h⟩
 |f+1,s,h=>by
  rw[Go.Proofs.YtadneapobijejaaGreatDoor.qArgsF];split
  ·have h1:=h.qArg
   have h2:=TB.qArgsF f h1.2
   exact⟨fun a ha=>by rcases vB.1 ha with e|e;· rw[e];exact h1.1
                      ·exact h2.1 a e,h2.2⟩
  ·exact⟨fun a ha=>by simp at ha,h⟩
theorem TB.qArgs(h:TB s):(∀a∈(qArgs s).1,a.2.2.2.size<=4000)/\TB (qArgs s).2:=by
 have h1:=h.qArg;have h2:=TB.qArgsF 801 h1.2
 exact⟨fun a ha=>by rcases vB.1 ha with e|e;· rw[e];exact h1.1
                    ·exact h2.1 a e,h2.2.nK 8⟩
theorem TB.qCond(h:TB s):(qCond s).1.2.2.2.size<=4000/\TB (qCond s).2:=by
 have h0:TB (KZ s):=by
  unfold KZ
  (repeat' split)<;>first|exact h.nmT|exact TB.none
 have h1:=(((h0.nK 7).nW MC).nK 9).qVal;exact⟨h1.1,h1.2.nK 8⟩
theorem TB.qConds:∀(f:Nat) {s:St},TB s->(∀a∈(qConds f s).1,a.2.2.2.size<=4000)/\TB (qConds f s).2
 |0,s,h=>⟨fun a ha=>by simp[Go.Proofs.YtadneapobijejaaGreatDoor.qConds]at ha,h⟩
 |f+1,s,h=>by
  rw[Go.Proofs.YtadneapobijejaaGreatDoor.qConds];split
  ·have h1:=h.tl.qCond
   have h2:=TB.qConds f h1.2
   exact⟨fun a ha=>by rcases vB.1 ha with e|e;· rw[e];exact h1.1
                      ·exact h2.1 a e,h2.2⟩
  ·exact⟨fun a ha=>by simp at ha,h⟩
end
structure SZ(x:Aq):Prop where
 n:x.name.size<=4000
 a:∀y∈x.args,y.2.2.2.size<=4000
 c:∀y∈x.conds,y.2.2.2.size<=4000
 k:x.key.size<=4000
def PZ(Ps:List Ai):Prop:=∀P∈Ps,∀x∈P.sels,SZ x
theorem PZ.nil:PZ []:=fun P hP=>by cases hP
theorem PZ.app{a b:List Ai}(h:PZ a)(k:PZ b):PZ (a++b):=fun P hP=>by
 rcases uZ.1 hP with e|e
 ·exact h P e
 ·exact k P e
def PN(part:Nat->vD->St->List Ai×St):Prop:=∀n typ s,TB s->PZ (part n typ s).1/\TB (part n typ s).2
def Qb(sel:Nat->St->Aq×List Ai×St):Prop:=∀n s,TB s->SZ (sel n s).1/\PZ (sel n s).2.1/\TB (sel n s).2.2
theorem oU{part:Nat->vD->St->List Ai×St}(hp:PN part):Qb (Et part):=by
 intro n s h;unfold Et;split
 ·split
  ·have h1:=TB.qConds 801 h.tl.nmT
   exact⟨⟨h.tl.nm,fun y hy=>by simp at hy,h1.1,(by show(⟨#[]⟩:vD).size<=4000;decide)⟩,PZ.nil,h1.2⟩
  ·unfold JC
   have h0:TB (FP (tl s)).2:=by
    unfold FP;split
    ·exact h.tl.tl.nmT
    ·exact h.tl
   have h1:=TB.qConds 801 h0;have h2:=hp n (FP (tl s)).1 _ h1.2;exact⟨⟨(by show(⟨#[]⟩:vD).size<=4000;decide),fun y hy=>by simp at hy,h1.1,(by show(⟨#[]⟩:vD).size<=4000;decide)⟩,h2.1,h2.2⟩
 ·unfold Iv
  have h0:(Em s).1.size<=4000/\TB (Em s).2:=by
   unfold Em;split
   ·exact⟨h.nmT.tl.nm,h.nmT.tl.nmT⟩
   ·exact⟨h.nm,h.nmT⟩
  have h1:(∀a∈(Gn (Em s).2).1,a.2.2.2.size<=4000)/\TB (Gn (Em s).2).2:=by
   unfold Gn;split
   ·exact h0.2.tl.qArgs
   ·exact⟨fun a ha=>by simp at ha,h0.2⟩
  have h2:=TB.qConds 801 h1.2;simp only[];split
  ·have h3:=hp n ⟨#[]⟩ _ h2.2
   exact⟨⟨h0.1,h1.1,h2.1,h.nm⟩,h3.1,h3.2⟩
  ·exact⟨⟨h0.1,h1.1,h2.1,h.nm⟩,PZ.nil,h2.2⟩
theorem Xb{sel:Nat->St->Aq×List Ai×St}(hs:Qb sel):∀(f n:Nat) (s:St),TB s->(∀x∈(Ch sel f n s).1,SZ x)/\PZ (Ch sel f n s).2.1/\TB (Ch sel f n s).2.2
 |0,n,s,h=>⟨fun x hx=>by simp[Ch]at hx,PZ.nil,h⟩
 |f+1,n,s,h=>by
  rw[Ch];split
  ·exact⟨fun x hx=>by simp at hx,PZ.nil,h⟩
  split
  ·exact⟨fun x hx=>by simp at hx,PZ.nil,h⟩
  ·have h1:=hs n s h
   have h2:=Xb hs f (n+(sel n s).2.1.length) _ h1.2.2
   exact⟨fun x hx=>by rcases vB.1 hx with e|e;· rw[e];exact h1.1
                      ·exact h2.1 x e,h1.2.1.app h2.2.1,h2.2.2⟩
theorem oJ{sel:Nat->St->Aq×List Ai×St}(hs:Qb sel)(d:Nat):PN (fun n typ s=>FB sel n d typ s):=by
 intro n typ s h;unfold FB;have h0:TB (Bz (d+1) s):=by
  unfold Bz;split
  ·exact TB.none
  ·exact h
 have h1:=hs (n+1) _ (h0.nK 14);have h2:=Xb hs 801 (n+1+(sel (n+1) (nK (Bz (d+1) s) 14)).2.1.length) _ h1.2.2;refine⟨fun P hP=>?_,h2.2.2.nK 15⟩;rcases vB.1 hP with e|e
 ·rw[e]
  intro x hx;rcases vB.1 hx with e|e
  ·rw[e];exact h1.1
  ·exact h2.1 x e
 ·exact(h1.2.1.app h2.2.1) P e
theorem WW:∀(f d:Nat),PN (fun n typ s=>BA f n d typ s)
 |0,d=>fun n typ s h=>⟨fun P hP=>by simp[BA]at hP;rw[hP];intro x hx;simp at hx,h⟩
 |f+1,d=>oJ (oU (WW f (d+1))) d
theorem Pf{s:St}(h:TB s):(CP s).1.name.size<=4000/\(CP s).1.dflt.1≠9/\TB (CP s).2:=by
 unfold CP;simp only[];have h1:=h.nK 6;have h2:=(h1.nmT).nK 9;have h4:=(h2.nmT).mayT (Ad (nmT (nK (nmT (nK s 6)) 9)) 5);have h5:=h4.mayT (Ad (mayT (nmT (nK (nmT (nK s 6)) 9)) (Ad (nmT (nK (nmT (nK s 6)) 9)) 5)) 10);split
 ·exact⟨h1.nm,h5.valK.2,h5.pVal⟩
 ·exact⟨h1.nm,(by show(0:Nat)≠9;decide),h5⟩
theorem Xe:∀(f:Nat) {s:St},TB s->(∀x∈(CZ f s).1,x.name.size<=4000/\x.dflt.1≠9)/\TB (CZ f s).2
 |0,s,h=>⟨fun a ha=>by simp[CZ]at ha,h⟩
 |f+1,s,h=>by
  rw[CZ];split
  ·have h1:=Pf h
   have h2:=Xe f h1.2.2
   exact⟨fun a ha=>by rcases vB.1 ha with e|e;· rw[e];exact⟨h1.1,h1.2.1⟩
                      ·exact h2.1 a e,h2.2⟩
  ·exact⟨fun a ha=>by simp at ha,h⟩
theorem mJ{s:St}(h:TB s):(∀x∈(Gu s).1,x.name.size<=4000/\x.dflt.1≠9)/\TB (Gu s).2:=by
 unfold Gu;split
 ·have h1:=Pf h.tl
  have h2:=Xe 801 h1.2.2
  exact⟨fun a ha=>by rcases vB.1 ha with e|e;· rw[e];exact⟨h1.1,h1.2.1⟩
                     ·exact h2.1 a e,h2.2.nK 8⟩
 ·exact⟨fun a ha=>by simp at ha,h⟩
structure QZ(Q:Qy):Prop where
 p:PZ Q.parts
 f:∀x∈Q.frags,x.1.size<=4000
 o:∀o∈Q.ops,∀x∈o.1,x.name.size<=4000/\x.dflt.1≠9
theorem Ma{q:Qy}{s:St}(hq:QZ q)(h:TB s):QZ (Cd q s).1/\TB (Cd q s).2:=by
 have HP:=WW 11 0;unfold Cd;unfold Iw;split
 ·have h1:=HP q.parts.length ⟨#[]⟩ s h
  refine⟨⟨hq.p.app h1.1,hq.f,fun o ho=>?_⟩,h1.2⟩;rcases uZ.1 ho with e|e
  ·exact hq.o o e
  ·rw[List.mem_singleton]at e;rw[e];intro x hx;simp at hx
 split
 ·rw[Mc]
  have h0:=mJ (h.tl.mayT (Ad (tl s) 1));have h1:=HP q.parts.length ⟨#[]⟩ _ h0.2;refine⟨⟨hq.p.app h1.1,hq.f,fun o ho=>?_⟩,h1.2⟩;rcases uZ.1 ho with e|e
  ·exact hq.o o e
  ·rw[List.mem_singleton]at e;rw[e];exact h0.1
 split
 ·unfold EK Iw
  simp only[];have h0:TB (EL (tl s)):=by
   unfold EL;split
   ·exact TB.none
   ·exact h.tl
  have h1:=HP q.parts.length (nm (nW (nmT (EL (tl s))) Dl)) _ ((h0.nmT).nW Dl).nmT;refine⟨⟨hq.p.app h1.1,fun x hx=>?_,hq.o⟩,h1.2⟩;rcases uZ.1 hx with e|e
  ·exact hq.f x e
  ·rw[List.mem_singleton]at e;rw[e];exact h0.nm
 ·exact⟨hq,TB.none⟩
theorem WT:∀(f:Nat) {q:Qy} {s:St},QZ q->TB s->QZ (FA f q s).1/\TB (FA f q s).2
 |0,q,s,hq,h=>⟨hq,h⟩
 |f+1,q,s,hq,h=>by
  rw[FA];split
  ·exact⟨hq,h⟩
  ·have h1:=Ma hq h
   exact WT f h1.1 h1.2
theorem WY(x:vD):QZ (BD (Af x)).1:=by
 have h1:=Ma (q:=⟨[],[],[]⟩) ⟨PZ.nil,fun x hx=>by simp at hx,fun x hx=>by simp at hx⟩ (TB.cut x);exact(WT 801 h1.1 h1.2).1
theorem QZ.nm{Q:Qy}(h:QZ Q):SL Q:=⟨h.f,fun P hP x hx=>(h.p P hP x hx).n⟩
theorem QZ.bd{Q:Qy}(h:QZ Q):SB Q:=⟨fun x hx=>by
 unfold Hu at hx;split at hx
 ·simp at hx
 ·rename_i o r e;exact h.o o (by rw[e];exact uX) x hx,fun P hP x hx y hy _=>(h.p P hP x hx).a y hy,fun P hP x hx y hy _=>(h.p P hP x hx).c y hy⟩
theorem QZ.link{Q:Qy}(h:QZ Q):QZ (Cm Q):=⟨fun P hP x hx=>by
 obtain⟨P0,hP0,rfl⟩:=List.mem_map.1 (show P∈Q.parts.map _ from hP);obtain⟨x0,hx0,rfl⟩:=List.mem_map.1 (show x∈P0.sels.map (BU Q.frags)from hx);have k:=OB Q.frags x0;have z:=h.p P0 hP0 x0 hx0;exact⟨by rw[k.2.2.1];exact z.n,by rw[k.2.2.2.1];exact z.a,by rw[k.2.2.2.2];exact z.c,by rw[k.2.1];exact z.k⟩,h.f,h.o⟩
theorem Yg:∀(f:Nat) {l:AL} {s:St},N9 l->TB s->N9 (FD f l s).1
 |0,l,s,h,_=>h
 |f+1,l,s,h,hs=>by
  rw[FD];split
  ·have h0:TB (JD l s):=by
    unfold JD;split
    ·exact TB.none
    ·exact hs.nK 3
   exact Yg f (h.cons (h0.nK 9).valK.2) (h0.nK 9).pVal
  ·exact h
theorem sR(x:vD):N9 (FZ (Af x)).1:=by
 unfold FZ;split
 ·exact N9.nil
 ·exact Yg 801 N9.nil ((TB.cut x).nK 14)
def DU(objs:List Ap)(ifs:List As)(n:vD):Option (List Al):=
 if Ae (objs.map Ap.name) n<0 then(if Ae (ifs.map As.name) n<0 then none else ifs[(Ae (ifs.map As.name) n).toNat]?.map As.fields)else objs[(Ae (objs.map Ap.name) n).toNat]?.map Ap.fields
def YF(w:World)(S:Nat)(v:Value):Option (List Al)->Prop
 |none=>v=.slice none 0 0
 |some fs=>Dq w S v fs/\fs.length<=802
section
variable {w:World} {S:Nat} {vR vO vI vU vN:Value} {LR:List (At×Value)} {LO:List AV} {LI:List (As×Value)} {LU:List (Au×Value)} {names:List vD}
theorem Xz(h:SV w S vR vO vI vU vN LR LO LI LU names)(n:vD):
 Calls prog 183 #[.pointer (some ⟨S,0,none⟩),.string n] w fun e w'=>∃v,e=.returned v/\vE w w'/\YF w S v (DU (LO.map Prod.fst) (LI.map Prod.fst) n):=by
 have hmo:(LO.map Prod.fst).map Ap.name=LO.map oN:=by rw[List.map_map];rfl
 have hmi:(LI.map Prod.fst).map As.name=LI.map iN:=by rw[List.map_map];rfl
 have HQ:=Aa (DU.eq_1 (LO.map Prod.fst) (LI.map Prod.fst) n);rw[hmo,hmi]at HQ;generalize DU (LO.map Prod.fst) (LI.map Prod.fst) n=FF at*;have HO:=Aa (Nx w S vR vO vI vU vN LR LO LI LU names n h);have HI:=Aa (fun W (hW:vE w W)=>RY W S vR vO vI vU vN LR LO LI LU names n (h.below hW));have hro:=h.rowObject;have hri:=h.rowIface;have HH:=Aa h;clear h hmo hmi;by_cases ho:Ae (LO.map oN) n<0
 ·rw[uC ho]at HQ
  rw[(GO hro n).1 ho]at HO;by_cases hi:Ae (LI.map iN) n<0
  ·rw[uC hi]at HQ
   rw[(GO hri n).1 hi]at HI;go_enter func183,ntmps183;go_wp2_with fail;refine HO.o.mono ?_;rintro _ w1 ⟨rfl,b1⟩;have HB1:=Aa b1;go_wp2_with fail;refine(HI.o _ HB1.o).mono ?_;rintro _ w2 ⟨rfl,b2⟩;go_wp2_with fail;go_ret;rw[HQ.o];exact⟨_,rfl,bT HB1.o b2,rfl⟩
  ·rw[uB hi]at HQ
   obtain⟨j,u,hj,hu,_,hjl⟩:=Cl iN LI n hi;obtain⟨gI,cI,hvI,hcI⟩:=HH.o.i.cell (fun _=>rfl) j u hu;have u1:w.cell? ⟨gI,j*2+1,none⟩=some u.2:=hcI 1 _ rfl;have hok:=HH.o.i.ok u (tO hu);have HP:=Aa (show AC vI 2 (Ae (LI.map iN) n)=.pointer (some ⟨gI,j*2,none⟩)from by rw[hj,hvI];unfold AC;rw[uB (by omega)];rfl);rw[HP.o]at HI;rw[hj,uO,uD,hu]at HQ;have lI:=tR w _ u1;have HF:=Aa (uV hok.1 hok.2);obtain⟨aF,cF,hvF⟩:∃a c,u.2=.slice a u.1.fields.length c:=by
    obtain⟨L,hL,hown,_⟩:=hok.1;obtain⟨a,c,e⟩:=An hown;exact⟨a,c,by rw[e,<-hL,uP]⟩
   rw[hvF]at u1 HF;clear hcI hvI hok hu hj hjl hvF;go_enter func183,ntmps183;go_wp2_with fail;refine HO.o.mono ?_;rintro _ w1 ⟨rfl,b1⟩;have HB1:=Aa b1;go_wp2_with fail;refine(HI.o _ HB1.o).mono ?_;rintro _ w2 ⟨rfl,b2⟩;have HB2:=Aa (bT HB1.o b2);have u2:=Ah HB2.o u1;have l2:gI<w2.heap.size:=tR w2 _ u2;go_wp2_with fail;go_ret;rw[HQ.o];exact⟨_,rfl,HB2.o,HF.o⟩
 ·rw[uB ho]at HQ
  obtain⟨j,u,hj,hu,_,hjl⟩:=Cl oN LO n ho;obtain⟨gO,cO,hvO,hcO⟩:=HH.o.o.cell (fun _=>rfl) j u hu;have u1:w.cell? ⟨gO,j*4+1,none⟩=some u.2.1:=hcO 1 _ rfl;have hok:=HH.o.o.ok u (tO hu);have HP:=Aa (show AC vO 4 (Ae (LO.map oN) n)=.pointer (some ⟨gO,j*4,none⟩)from by rw[hj,hvO];unfold AC;rw[uB (by omega)];rfl);rw[HP.o]at HO;rw[hj,uO,uD,hu]at HQ;have lO:=tR w _ u1;have HF:=Aa (uV hok.1 hok.2.1);obtain⟨aF,cF,hvF⟩:∃a c,u.2.1=.slice a u.1.fields.length c:=by
   obtain⟨L,hL,hown,_⟩:=hok.1;obtain⟨a,c,e⟩:=An hown;exact⟨a,c,by rw[e,<-hL,uP]⟩
  rw[hvF]at u1 HF;clear hcO hvO hok hu hj hjl hvF;go_enter func183,ntmps183;go_wp2_with fail;refine HO.o.mono ?_;rintro _ w1 ⟨rfl,b1⟩;have HB1:=Aa b1;have u2:=Ah HB1.o u1;have l2:gO<w1.heap.size:=tR w1 _ u2;go_wp2_with fail;go_ret;rw[HQ.o];exact⟨_,rfl,HB1.o,HF.o⟩
end
def DY(a b:vD):vD:=if a=bE then b else a
theorem mK{w:World}{g:Nat}{a b:vD}(h:w.heap[g]?=some (.cells #[.string a,.string b] 9 (0,0))):Calls prog 175 #[.slice (some ⟨g,0,none⟩) 2 2] w fun e w'=>e=.returned (.string (DY a b))/\w'=w:=by
 have c:=Ac h;have c0:w.cell? ⟨g,0,none⟩=some (.string a):=c 0;have c1:w.cell? ⟨g,1,none⟩=some (.string b):=c 1;have lg:=Ab h;have HQ:=Aa (DY.eq_1 a b);have L1:=BN a [];have L2:=BN b [];generalize DY a b=q at*;clear h c;go_enter func175,ntmps175;go_wp2_with fail;go_loopg [5,8] 2 (fun m v5 v8 wr=>∃t:Nat,v8=.int .i64 t/\t<=2/\2-t<=m/\wr=w/\(1<=t->a=bE)/\(2<=t->b=bE))
 case atStart=>exact⟨0,rfl,by decide,by decide,rfl,fun h=>absurd h (by decide),fun h=>absurd h (by decide)⟩
 case round=>
  obtain⟨t,rfl,htl,htm,hw,h1,h2⟩:=hrel;subst hw;rcases(show t=0\/t=1\/t=2 by omega)with e|e|e
  ·subst e
   by_cases ea:a=bE
   ·rw[uH (show a=Az []from ea)]at L1
    have L1':(a.toList !=[])=false:=by rw[bne,L1];rfl
    have HA:=Aa ea;clear h1 h2 ea;go_wp2_with fail;go_roundg 1
    case measure=>omega
    case rel=>exact⟨1,by go_num,by decide,by decide,rfl,fun _=>HA.o,fun h=>absurd h (by decide)⟩
   ·rw[tT (show¬a=Az []from ea)]at L1
    have L1':(a.toList !=[])=true:=by rw[bne,L1];rfl
    rw[uB ea]at HQ;clear h1 h2 ea;go_wp2_with fail;go_ret;rw[HQ.o];exact⟨rfl,rfl⟩
  ·subst e
   have ea:=h1 (by decide);rw[uC ea]at HQ;by_cases eb:b=bE
   ·rw[uH (show b=Az []from eb)]at L2
    have L2':(b.toList !=[])=false:=by rw[bne,L2];rfl
    have HA:=Aa (uV ea eb);clear h1 h2 ea eb;go_wp2_with fail;go_roundg 0
    case measure=>omega
    case rel=>exact⟨2,by go_num,by decide,by decide,rfl,fun _=>HA.o.1,fun _=>HA.o.2⟩
   ·rw[tT (show¬b=Az []from eb)]at L2
    have L2':(b.toList !=[])=true:=by rw[bne,L2];rfl
    clear h1 h2 ea eb;go_wp2_with fail;go_ret;rw[HQ.o];exact⟨rfl,rfl⟩
  ·subst e
   have ea:=h1 (by decide);have eb:=h2 (by decide);rw[uC ea]at HQ;have HQ2:=Aa (show q=⟨#[]⟩from HQ.o.trans eb);clear h1 h2 ea eb;go_wp2_with fail;go_ret;rw[HQ2.o];exact⟨rfl,rfl⟩
def En(fs:List Al)(n:vD):Option Al:=if Ae (fs.map Al.name) n<0 then none else fs[(Ae (fs.map Al.name) n).toNat]?
def Il(objs:List Ap)(ifs:List As)(typ n:vD):Option Al:=(DU objs ifs typ).bind (fun fs=>En fs n)
def Ll(w:World)(S:Nat)(q:Option Addr):Option Al->Prop
 |none=>q=none
 |some f=>∃g o u,q=some ⟨g,o,none⟩/\Ce w g o f u/\Bu w S u f.ty
theorem dL{w:World}{S:Nat}{v:Value}{fs:List Al}(h:Dq w S v fs)(n:vD):∃q,AC v 6 (Ae (fs.map Al.name) n)=.pointer q/\Ll w S q (En fs n):=by
 obtain⟨L,hL,hr⟩:=h.row;unfold En;by_cases hneg:Ae (fs.map Al.name) n<0
 ·rw[uC hneg]
  exact⟨none,by unfold AC;rw[uC hneg],rfl⟩
 ·rw[uB hneg]
  obtain⟨j,f,hj,hf,_,hjl⟩:=Cl Al.name fs n hneg;rw[hj,uO,hf];rw[<-hL,uD]at hf;obtain⟨y,hy,rfl⟩:=uY.1 hf;obtain⟨g,cap,hv,hfa,hta⟩:=hr.fldAt j y hy;exact⟨some ⟨g,j*6,none⟩,by rw[hv];unfold AC;rw[uB (by omega)];rfl,⟨g,j*6,y.2,rfl,hfa,hta⟩⟩
section
variable {w:World} {S:Nat} {vR vO vI vU vN:Value} {LR:List (At×Value)} {LO:List AV} {LI:List (As×Value)} {LU:List (Au×Value)} {names:List vD}
theorem qX(h:SV w S vR vO vI vU vN LR LO LI LU names)(typ n:vD):
 Calls prog 171 #[.pointer (some ⟨S,0,none⟩),.string typ,.string n] w fun e w'=>∃q,e=.returned (.pointer q)/\vE w w'/\Ll w S q (Il (LO.map Prod.fst) (LI.map Prod.fst) typ n):=by
 have HF:=Aa (Xz h typ);have HQ:=Aa (Il.eq_1 (LO.map Prod.fst) (LI.map Prod.fst) typ n);generalize Il (LO.map Prod.fst) (LI.map Prod.fst) typ n=FF at*;generalize DU (LO.map Prod.fst) (LI.map Prod.fst) typ=ff at*;clear h;cases ff with
 |none=>
  have HN:=Aa (fun W=>QB W (.slice none 0 0) n [] ⟨none,0,rfl,.inl rfl⟩ (by decide));have HP:=Aa (show AC (.slice none 0 0) 6 (Ae [] n)=.pointer none from rfl);rw[HP.o]at HN;have HQ2:=Aa (show FF=none from HQ.o);go_enter func171,ntmps171;go_wp2_with fail;refine HF.o.mono ?_;rintro _ w1 ⟨v,rfl,b1,hv⟩;have hv':v=.slice none 0 0:=hv;subst hv';have HB1:=Aa b1;clear hv b1;go_wp2_with fail;refine(HN.o _).mono ?_;rintro _ w2 ⟨rfl,b2⟩;go_wp2_with fail;go_ret;rw[HQ2.o];exact⟨none,rfl,bT HB1.o b2,rfl⟩
 |some fs=>
  have HQ2:=Aa (show FF=En fs n from HQ.o);go_enter func171,ntmps171;go_wp2_with fail;refine HF.o.mono ?_;rintro _ w1 ⟨v,rfl,b1,hv⟩;have hv':Dq w S v fs/\fs.length<=802:=hv;obtain⟨q,hq,hfp⟩:=dL hv'.1 n;obtain⟨L,hL,hr⟩:=hv'.1.row;have hrow:CT w v 6 (fs.map Al.name):=by
   have:=hr.rowed fN (fun _=>rfl) (fun _=>rfl)
   rwa [Ke L fs hL]at this
  have HN:=Aa (QB w1 v n (fs.map Al.name) (hrow.below b1) (by rw[uP];omega));rw[hq]at HN;obtain⟨a,c,rfl⟩:=hv'.1.slice;have HB1:=Aa b1;have HFP:=Aa hfp;clear hv hv' hq hrow hr hL b1 hfp;go_wp2_with fail;refine HN.o.mono ?_;rintro _ w2 ⟨rfl,b2⟩;go_wp2_with fail;go_ret;rw[HQ2.o];exact⟨q,rfl,bT HB1.o b2,HFP.o⟩
end
def Id(f:Al):List Eh->Bool
 |[]=>!decide (f.arg=CI)
 |[a]=>(a.1.toList==f.arg.toList)&&Dm a.2 f.scalar (decide (f.arg=CI))
 |_=>false
section
variable {w:World} {g o B:Nat} {f:Al} {u va:Value} {args:List Eh}
theorem Zg(hf:Ce w g o f u)(ha:w.ownsRow B 184 4 va args.length (args.flatMap aL))(hl:args.length<=802):
 Calls prog 173 #[.pointer (some ⟨g,o,none⟩),va] w fun e w'=>e=.returned (.bool (Id f args))/\vE w w':=by
 obtain⟨aA,cA,rfl⟩:=An ha;have HT:=Aa (fun W (hW:vE w W)=>Sk (hf.below hW));have d3:=hf.c3;have d4:=hf.c4;have lg:=tR w _ d3
 match args,ha,hl with
 |[],ha,hl=>
  show Calls _ _ _ _ (fun e w'=>e=.returned (.bool (!decide (f.arg=CI)))/\_);generalize decide (f.arg=CI)=tk at*;clear ha hf;go_enter func173,ntmps173;go_wp2_with fail;refine(HT.o _ (tM _ _)).mono ?_;rintro _ w1 ⟨rfl,hw1⟩;have hw1:=hw1.symm;subst hw1;go_wp2_with fail;go_ret;exact⟨rfl,tM _ _⟩
 |[a],ha,hl=>
  obtain⟨gA,cap,hv,hc⟩:=Cn ha (fun _=>rfl) 0 a rfl;have ea:=(Value.slice.inj hv).1;subst ea;have y0:w.cell? ⟨gA,0,none⟩=some (.string a.1):=by simpa using hc 0 _ rfl
  have y1:w.cell? ⟨gA,1,none⟩=some (.int .i64 a.2.1):=by simpa using hc 1 _ rfl
  have y2:w.cell? ⟨gA,2,none⟩=some (.int .i64 a.2.2.1):=by simpa using hc 2 _ rfl
  have y3:w.cell? ⟨gA,3,none⟩=some (.string a.2.2.2):=by simpa using hc 3 _ rfl
  have lA:=tR w _ y0;show Calls _ _ _ _ (fun e w'=>e=.returned (.bool ((a.1.toList==f.arg.toList)&&Dm a.2 f.scalar (decide (f.arg=CI))))/\_);have HF:=Aa (fun W tk=>MU W a.2 f.scalar tk);generalize decide (f.arg=CI)=tk at*;have HF:=Aa (fun W=>HF.o W tk);generalize Dm a.2 f.scalar tk=fb at*;cases e1:(a.1.toList==f.arg.toList)
  ·clear hc hv ha hf
   go_enter func173,ntmps173;go_wp2_with fail;go_quiet (fail);go_wp2_with fail;go_ret;exact⟨rfl,below_drewN (tM _ _) _⟩
  ·have HS:=Aa (fun V (hV:vE w V)=>uV hV (uV (Ah hV d3) (uV (Ah hV d4) (uV (Ah hV y0) (uV (Ah hV y1) (uV (Ah hV y2) (Ah hV y3)))))))
   clear hc hv ha hf;go_enter func173,ntmps173;go_wp2_with fail;go_region_held3 (fun V=>vE w V/\V.cell? ⟨g,o+3,none⟩=some (.string f.arg)/\V.cell? ⟨g,o+4,none⟩=some (.string f.scalar)/\V.cell? ⟨gA,0,none⟩=some (.string a.1)/\V.cell? ⟨gA,1,none⟩=some (.int .i64 a.2.1)/\V.cell? ⟨gA,2,none⟩=some (.int .i64 a.2.2.1)/\V.cell? ⟨gA,3,none⟩=some (.string a.2.2.2))
    (first|exact HS.o _ (tM _ _).drew|exact HS.o _ (bT bh b2)|exact HS.o _ bh)
    (first|(go_at_call 109;obtain⟨bh, -⟩:= ‹vE w _/\_›;refine(HT.o _ bh).mono ?_;rintro _ w2 ⟨rfl,rfl⟩)|(go_at_call 44;obtain⟨bh, -⟩:= ‹vE w _/\_›;refine(HF.o _).mono ?_;rintro _ w2 ⟨rfl,b2⟩))
   all_goals(obtain⟨bh, -⟩:= ‹vE w _/\_›;(try go_wp2_with fail);go_ret;exact⟨rfl,bh⟩)
 |a::b::r,ha,hl=>
  show Calls _ _ _ _ (fun e w'=>e=.returned (.bool false)/\_);have hl2:2<=(a::b::r).length:=by simp
  generalize (a::b::r).length=n at*;have T0:((n:Int)==0)=false:=by simp;omega
  have T1:((n:Int)==1)=false:=by simp;omega
  clear ha hf;go_enter func173,ntmps173;go_wp2_with fail;go_ret;exact⟨rfl,tM _ _⟩
end
section
variable {w:World} {S:Nat} {vR vO vI vU vN:Value} {LR:List (At×Value)} {LO:List AV} {LI:List (As×Value)} {LU:List (Au×Value)} {names:List vD}
theorem mC(h:SV w S vR vO vI vU vN LR LO LI LU names)(x:AV)(hx:x∈LO)(n:vD)(gO off:Nat)(o0:w.cell? ⟨gO,off,none⟩=some (.string x.1.name))(o2:w.cell? ⟨gO,off+2,none⟩=some x.2.2.1):
 Calls prog 181 #[.pointer (some ⟨S,0,none⟩),.pointer (some ⟨gO,off,none⟩),.string n] w fun e w'=>e=.returned (.bool (AU x.1 (LU.map Prod.fst) n))/\vE w w':=by
 obtain⟨_,_,hO3,hO4,_⟩:=h.o.ok x hx;have HIM:=Aa (fun W (hW:vE w W)=>Nw n x.2.2.1 x.1.impl W (DK.of_own (AT hO3 hW)) (by omega));have HSU:=Aa (Sa w S vR vO vI vU vN LR LO LI LU names n h);have HUN:=Aa (h.u);have hro:=h.rowUnion;obtain⟨aI,cI,hvI⟩:=An hO3;rw[hvI]at o2 HIM;have hlO:=tR w _ o0;have HQ:=Aa (show AU x.1 (LU.map Prod.fst) n=((x.1.name.toList==n.toList)||(AS n x.1.impl||Iy (LU.map Prod.fst) n x.1.name))from rfl);clear hO3 hO4 hx h;generalize AU x.1 (LU.map Prod.fst) n=q at*;have HUX:=Aa (show Iy (LU.map Prod.fst) n x.1.name=if Ae (LU.map uN) n<0 then false else match (LU.map Prod.fst)[(Ae (LU.map uN) n).toNat]? with|some u=>AS x.1.name u.members|none=>false from by
  unfold Iy;rw[List.map_map];rfl)
 generalize Iy (LU.map Prod.fst) n x.1.name=qu at*;cases b1:(x.1.name.toList==n.toList)
 rotate_left
 ·rw[b1]at HQ
  go_enter func181,ntmps181;go_wp2_with fail;go_ret;exact⟨Ak HQ.o.symm,tM _ _⟩
 rw[b1]at HQ;cases b2:AS n x.1.impl
 rotate_left
 ·rw[b2]at HQ HIM
  go_enter func181,ntmps181;go_wp2_with fail;refine(HIM.o _ (tM _ _)).mono ?_;rintro _ w' ⟨rfl,hw'⟩;have hw':=hw'.symm;subst hw';go_wp2_with fail;go_ret;exact⟨Ak HQ.o.symm,tM _ _⟩
 rw[b2]at HQ HIM;have HQ2:=Aa (show q=qu from HQ.o);clear HQ b2;by_cases hneg:Ae (LU.map uN) n<0
 ·rw[uC hneg]at HUX
  rw[(GO hro n).1 hneg]at HSU;go_enter func181,ntmps181;go_wp2_with fail;refine(HIM.o _ (tM _ _)).mono ?_;rintro _ w' ⟨rfl,hw'⟩;have hw':=hw'.symm;subst hw';go_wp2_with fail;refine HSU.o.mono ?_;rintro _ w1 ⟨rfl,hb1⟩;have HB1:=Aa hb1;clear hb1;go_wp2_with fail;go_quiet (fail);go_wp2_with fail;go_ret;exact⟨Ak (by rw[HQ2.o,HUX.o]),below_drewN HB1.o _⟩
 ·rw[uB hneg]at HUX
  obtain⟨j,u,hj,hu,_,hjl⟩:=Cl uN LU n hneg;obtain⟨gU,cU,hvU,hcU⟩:=HUN.o.cell (fun _=>rfl) j u hu;have u1:w.cell? ⟨gU,j*2+1,none⟩=some u.2:=hcU 1 _ rfl;obtain⟨hU1,hU2⟩:=HUN.o.ok u (tO hu);obtain⟨aM,cM,hvM⟩:=An hU1;have HME:=Aa (fun W (hW:vE w W)=>Nw x.1.name u.2 u.1.members W (DK.of_own (AT hU1 hW)) (by omega));rw[hvM]at u1 HME;rw[hj,uO,uD,hu]at HUX;have HP:=Aa (show AC vU 2 (Ae (LU.map uN) n)=.pointer (some ⟨gU,j*2,none⟩)from by rw[hj,hvU];unfold AC;rw[uB (by omega)];rfl);rw[HP.o]at HSU;have HQ3:=Aa (show q=AS x.1.name u.1.members from by rw[HQ2.o,HUX.o];rfl);generalize AS x.1.name u.1.members=qm at*;generalize x.1.name=nm1 at*;clear HUX HQ2 HP hj hu hvU hcU hU1 hU2 HUN hneg hro hvM hvI;go_enter func181,ntmps181;go_wp2_with fail;refine(HIM.o _ (tM _ _)).mono ?_;rintro _ w' ⟨rfl,hw'⟩;have hw':=hw'.symm;subst hw';go_wp2_with fail;refine HSU.o.mono ?_;rintro _ w1 ⟨rfl,hb1⟩;have o0:=Ah hb1 o0;have u1:=Ah hb1 u1;have HB1:=Aa hb1;clear hb1 o2;go_wp2_with fail;go_quiet ((go_at_call 216;refine Calls.quiet_of_same (HME.o _ (below_drewN HB1.o _))));go_wp2_with fail;go_ret;exact⟨Ak HQ3.o.symm,below_drewN HB1.o _⟩
def Iq(objs:List Ap)(uns:List Au)(a b:vD):Bool:=objs.any (fun o=>AU o uns a&&AU o uns b)
theorem We(h:SV w S vR vO vI vU vN LR LO LI LU names)(x:AV)(hx:x∈LO):∃a1 n1 c1 a2 n2 c2 q,x.2.1=.slice a1 n1 c1/\x.2.2.1=.slice a2 n2 c2/\x.2.2.2=.pointer q:=by
 obtain⟨h1,_,h3,_,h5⟩:=h.o.ok x hx;obtain⟨a1,c1,e1⟩:=h1.slice;obtain⟨a2,c2,e2⟩:=An h3;obtain⟨q,e3⟩:=h5.ptr;exact⟨_,_,_,_,_,_,_,e1,e2,e3⟩
theorem ZU(h:SV w S vR vO vI vU vN LR LO LI LU names)(x:AV)(hx:x∈LO)(a b:vD)(Z1 Z2 Z3:Nat)(z1:w.cell? ⟨Z1,0,none⟩=some (.pointer (some ⟨S,0,none⟩)))(z2:w.cell? ⟨Z2,0,none⟩=some (.string a))(z3:w.cell? ⟨Z3,0,none⟩=some (.string b)):
 Calls prog 213 #[.agg #[.string x.1.name,x.2.1,x.2.2.1,x.2.2.2],.pointer (some ⟨Z1,0,none⟩),.pointer (some ⟨Z2,0,none⟩),.pointer (some ⟨Z3,0,none⟩)] w fun e w'=>e=.returned (.bool (AU x.1 (LU.map Prod.fst) a&&AU x.1 (LU.map Prod.fst) b))/\vE w w':=by
 obtain⟨a1,n1,c1,a2,n2,c2,q,e1,e2,e3⟩:=We h x hx;have HO:=Aa (fun W (hW:vE w W) (n:vD) (g:Nat) (hg:W.heap[g]?=some (.cells #[.string x.1.name,x.2.1,x.2.2.1,x.2.2.2] 203 (0,0)))=>mC (h.below hW) x hx n g 0 (Ac hg 0) (Ac hg 2));rw[e1,e2,e3]at HO;rw[e1,e2,e3];have l1:=tR w _ z1;have l2:=tR w _ z2;have l3:=tR w _ z3;have HB0:=Aa (show vE w (w.alloc (.cells #[.string x.1.name,.slice a1 n1 c1,.slice a2 n2 c2,.pointer q] 203))from(tM _ _).alloc (tL _) _);have HN0:=Aa (show(w.alloc (.cells #[.string x.1.name,.slice a1 n1 c1,.slice a2 n2 c2,.pointer q] 203)).heap[w.heap.size]?=some (.cells #[.string x.1.name,.slice a1 n1 c1,.slice a2 n2 c2,.pointer q] 203 (0,0))from tS w _);have HA:=Aa (HO.o _ HB0.o a w.heap.size HN0.o);have HBB:=Aa (fun W (hW:Below (w.alloc (.cells #[.string x.1.name,.slice a1 n1 c1,.slice a2 n2 c2,.pointer q] 203)).heap.size (w.alloc (.cells #[.string x.1.name,.slice a1 n1 c1,.slice a2 n2 c2,.pointer q] 203)) W)=>HO.o W (bT HB0.o hW) b w.heap.size ((hW.block _ (Ab HN0.o)).trans HN0.o));generalize AU x.1 (LU.map Prod.fst) a=qa at*;generalize AU x.1 (LU.map Prod.fst) b=qb at*;clear h e1 e2 e3 HO hx;cases qa
 ·go_enter func213,ntmps213
  go_wp2_with fail;refine HA.o.mono ?_;rintro _ w1 ⟨rfl,b1⟩;go_wp2_with fail;go_ret;exact⟨rfl,bT HB0.o b1⟩
 ·go_enter func213,ntmps213
  go_wp2_with fail;refine HA.o.mono ?_;rintro _ w1 ⟨rfl,b1⟩;have hb1:=bT HB0.o b1;have y1:=Ah hb1 z1;have y3:=Ah hb1 z3;have m1:=tR w1 _ y1;have m3:=tR w1 _ y3;have HB1:=Aa b1;clear hb1 b1;go_wp2_with fail;refine(HBB.o _ HB1.o).mono ?_;rintro _ w2 ⟨rfl,b2⟩;go_wp2_with fail;go_ret;exact⟨Ak (by simp),bT HB0.o (bT HB1.o b2)⟩
end
section
variable {w:World} {S:Nat} {vR vO vI vU vN:Value} {LR:List (At×Value)} {LO:List AV} {LI:List (As×Value)} {LU:List (Au×Value)} {names:List vD}
theorem eN(h:SV w S vR vO vI vU vN LR LO LI LU names)(a b:vD)(Z1 Z2 Z3:Nat)(z1:w.cell? ⟨Z1,0,none⟩=some (.pointer (some ⟨S,0,none⟩)))(z2:w.cell? ⟨Z2,0,none⟩=some (.string a))(z3:w.cell? ⟨Z3,0,none⟩=some (.string b)):
 Calls prog 126 #[vO,.func (Fn.func 213) #[] #[.pointer (some ⟨Z1,0,none⟩),.pointer (some ⟨Z2,0,none⟩),.pointer (some ⟨Z3,0,none⟩)]] w fun e w'=>(∃r:Int,e=.returned (.int .i64 r)/\decide (0<=r)=Iq (LO.map Prod.fst) (LU.map Prod.fst) a b)/\vE w w':=by
 obtain⟨aO,cO,hvO⟩:=An h.o.own;subst hvO;have HH:=Aa h;have hlo:=h.lo;have HC:=Aa (fun W (hW:vE w W) (x:AV) (hx:x∈LO)=>ZU (h.below hW) x hx a b Z1 Z2 Z3 (Ah hW z1) (Ah hW z2) (Ah hW z3));have HQ:=Aa (show Iq (LO.map Prod.fst) (LU.map Prod.fst) a b=LO.any (fun x=>AU x.1 (LU.map Prod.fst) a&&AU x.1 (LU.map Prod.fst) b)from by unfold Iq;rw[List.any_map];rfl);generalize Iq (LO.map Prod.fst) (LU.map Prod.fst) a b=FF at*;clear h z1 z2 z3;go_enter func126,ntmps126;go_wp2_with fail;go_loopg [5,8] LO.length (fun m v5 v8 wr=>∃k:Nat,v8=.int .i64 k/\k<=LO.length/\LO.length-k<=m/\vE w wr/\FF=(LO.drop k).any (fun x=>AU x.1 (LU.map Prod.fst) a&&AU x.1 (LU.map Prod.fst) b))
 case atStart=>exact⟨0,rfl,tU _,tL _,tM _ _,HQ.o⟩
 case round=>
  obtain⟨k,rfl,hk,hm,hb,hrel⟩:=hrel;have HB:=Aa hb;have HD:=Aa hrel;by_cases hlt:k<LO.length
  ·have hx:=tN hlt
   have hdr:LO.drop k=LO[k]::LO.drop (k+1):=uT hlt;have hmem:LO[k]∈LO:=List.getElem_mem hlt;generalize LO[k]=x at hx hdr hmem;obtain⟨g,cap,hv,hc⟩:=HH.o.o.cell (fun _=>rfl) k x hx;have ea:=(Value.slice.inj hv).1;subst ea;obtain⟨a1,n1,c1,a2,n2,c2,q,e1,e2,e3⟩:=We HH.o x hmem;have x0:wr.cell? ⟨g,k*4,none⟩=some (.string x.1.name):=Ah hb (by simpa using hc 0 _ rfl);have x1:wr.cell? ⟨g,k*4+1,none⟩=some (.slice a1 n1 c1):=Ah hb (by rw[<-e1];exact hc 1 _ rfl);have x2:wr.cell? ⟨g,k*4+2,none⟩=some (.slice a2 n2 c2):=Ah hb (by rw[<-e2];exact hc 2 _ rfl);have x3:wr.cell? ⟨g,k*4+3,none⟩=some (.pointer q):=Ah hb (by rw[<-e3];exact hc 3 _ rfl);have hlg:=tR wr _ x0;have hcl:=Aa (HC.o wr hb x hmem);rw[e1,e2,e3]at hcl;rw[hdr,List.any_cons]at HD;generalize (AU x.1 (LU.map Prod.fst) a&&AU x.1 (LU.map Prod.fst) b)=bb at*;clear hc hv hx hdr hmem hb hrel e1 e2 e3;cases bb
   ·have HD2:=Aa (show FF=(LO.drop (k+1)).any (fun x=>AU x.1 (LU.map Prod.fst) a&&AU x.1 (LU.map Prod.fst) b)from by rw[HD.o,Bool.false_or])
    go_wp2_with fail;refine hcl.o.mono ?_;rintro _ w1 ⟨rfl,b1⟩;have hbb:=bT HB.o b1;clear b1;go_wp2_with fail;go_roundg (LO.length-(k+1))
    case measure=>omega
    case rel=>exact⟨k+1,by go_num,by omega,tL _,hbb,HD2.o⟩
   ·have HD2:=Aa (show FF=true from by rw[HD.o,Bool.true_or])
    go_wp2_with fail;refine hcl.o.mono ?_;rintro _ w1 ⟨rfl,b1⟩;go_wp2_with fail;go_ret;refine⟨⟨k,rfl,?_⟩,bT HB.o b1⟩;rw[HD2.o];exact uH (by omega)
  ·have ht:k=LO.length:=by omega
   subst ht;have HD2:=Aa (show FF=false from by rw[HD.o,List.drop_length];rfl);clear hb hrel;go_wp2_with fail;go_ret;refine⟨⟨-1,rfl,?_⟩,HB.o⟩;rw[HD2.o];rfl
theorem kC(h:SV w S vR vO vI vU vN LR LO LI LU names)(a b:vD):
 Calls prog 176 #[.pointer (some ⟨S,0,none⟩),.string a,.string b] w fun e w'=>e=.returned (.bool (Iq (LO.map Prod.fst) (LU.map Prod.fst) a b))/\vE w w':=by
 have lS:=Ab h.sc;have HI:=Aa (fun W (hW:vE w W) Z1 Z2 Z3 z1 z2 z3=>eN (h.below hW) a b Z1 Z2 Z3 z1 z2 z3);obtain⟨aO,cO,hvO⟩:=An h.o.own;subst hvO;have cS:w.cell? ⟨S,1,none⟩=some (.slice aO LO.length cO):=Ac h.sc 1;generalize Iq (LO.map Prod.fst) (LU.map Prod.fst) a b=FF at*;have HCF:=Aa (fun W (hW:vE w W) (Z1 Z2 Z3:Nat) (z1:W.cell? ⟨Z1,0,none⟩=some (.pointer (some ⟨S,0,none⟩))) (z2:W.cell? ⟨Z2,0,none⟩=some (.string a)) (z3:W.cell? ⟨Z3,0,none⟩=some (.string b))=>(show Calls prog 212 #[.slice aO LO.length cO,.func (Fn.func 213) #[] #[.pointer (some ⟨Z1,0,none⟩),.pointer (some ⟨Z2,0,none⟩),.pointer (some ⟨Z3,0,none⟩)]] W (fun e w'=>e=.returned (.bool FF)/\vE W w')from by
  have hi:=Aa (HI.o W hW Z1 Z2 Z3 z1 z2 z3);clear z1 z2 z3;go_enter func212,ntmps212;go_wp2_with fail;refine hi.o.mono ?_;rintro _ w1 ⟨⟨r,rfl,hr⟩,b1⟩;have HR:=Aa hr;clear hr;go_wp2_with fail;go_ret;exact⟨Ak (by rw[<-HR.o]),b1⟩))
 clear h HI;have HB3:=Aa (show vE w (((w.alloc (.cells #[.pointer (some ⟨S,0,none⟩)] 58)).alloc (.cells #[.string a] 9)).alloc (.cells #[.string b] 9))from bA (bA (bA (tM _ _) _) _) _);have c3:=Ah HB3.o cS;have lS1:S<w.heap.size+1:=by omega
 have lS2:S<w.heap.size+1+1:=by omega
 go_enter func176,ntmps176;go_wp2_with fail;refine(HCF.o _ HB3.o _ _ _ ?_ ?_ ?_).mono ?_
 ·rw[Ac ((AK _ _ _ (by simp;omega)).trans (Lg w _ _))];rfl
 ·rw[Ac ((AK _ _ _ (by simp)).trans (Mh w _ _))];rfl
 ·rw[Ac (Mh (w.alloc (.cells #[.pointer (some ⟨S,0,none⟩)] 58)) (.cells #[.string a] 9) (.cells #[.string b] 9)|>fun h=>by simpa using h)];rfl
 rintro _ w1 ⟨rfl,b1⟩;go_wp2_with fail;go_ret;exact⟨rfl,bT HB3.o b1⟩
end
end Go.Proofs.YtadneapobijejaaGreatDoor
