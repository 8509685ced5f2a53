import Derived.Test.YtgbloieahmkcjaaGreatC35
import Derived.Test.YtgbloieahmkcjaaGreatC30
namespace Go.Proofs.YtgbloieahmkcjaaGreat
set_option maxHeartbeats 20000000
set_option maxRecDepth 100000
open Go.RowKit Tryz
def pW(Lu:List Ls)(id:Ls)(l:List eW)(rl:Option (List cw))(t:aK):Bool:=rl.isSome&&!iI (fun n=>ba n Lu) (pD l id) t
theorem Di{W:World}{v g o gO k B:Nat}{id:Ls}{Lu:List Ls}(hv:jY W v id Lu)(vC u:Value)(l:List eW)(rl:Option (List cw))(t:aK)(h0:W.cell? ⟨g,o,none⟩=some (.pointer (some ⟨gO,k,none⟩)))(h3:W.cell? ⟨gO,k+3,none⟩=some u)(hc:W.cell? ⟨g,o+2,none⟩=some vC)(hp:j5 W vC l)(hl:l.length<=1000000)(hu:jX W B u rl t):
 Calls prog 43 #[.pointer (some ⟨v,0,none⟩),.pointer (some ⟨g,o,none⟩)] W fun e w'=>e=.returned (.bool (pW Lu id l rl t))/\Lt W w':=by
 have hgl:=KQ W _ h0;have hgO:=KQ W _ h3;rcases rl with _|z
 ·rw[show u=.pointer none from hu]at h3
  have he:pW Lu id l none t=false:=rfl;rw[he];clear hv hc hp hu he;go_enter func43,ntmps43;go_wp2_with fail;go_ret;exact⟨rfl,KL _ _⟩
 ·have HC:=aa (H8 hv vC l hc hp hl hu.1)
  have he:pW Lu id l (some z) t=!iI (fun n=>ba n Lu) (pD l id) t:=rfl;rw[he];obtain⟨kb,rfl⟩:=hu.1.ptr;generalize iI (fun n=>ba n Lu) (pD l id) t=q at*;clear hv hc hp hu he;go_enter func43,ntmps43;go_wp2_with fail;refine(HC.o _ (KL _ _)).mono ?_;rintro _ w1 ⟨rfl,b1⟩;go_wp2_with fail;go_ret;exact⟨rfl,b1⟩
def qB(Lu:List Ls)(f:ax):Bool:=jd Lu f.LG&&jd Lu f.LH
def lx(Lu:List Ls)(l:List eW):List dd:=(l.filter (fun c=>qB Lu c.f)).map (fun c=>(c.f.name,c.t))
theorem Fo{W:World}{v g o gO k:Nat}{id nm rid:Ls}{Lu:List Ls}(hv:jY W v id Lu)(vC:Value)(l:List eW)(h0:W.cell? ⟨g,o,none⟩=some (.pointer (some ⟨gO,k,none⟩)))(h1:W.cell? ⟨g,o+1,none⟩=some (.string rid))(h3:W.cell? ⟨gO,k,none⟩=some (.string nm))(hc:W.cell? ⟨g,o+2,none⟩=some vC)(hp:j5 W vC l)(hl:l.length<=1000000):
 Calls prog 44 #[.pointer (some ⟨g,o,none⟩),.func (Fn.func 45) #[.pointer (some ⟨v,0,none⟩)] #[]] W fun e w'=>∃vO,e=.returned (.agg #[.string nm,.string rid,vO])/\w'.ownsRow W.heap.size 34 2 vO (lx Lu l).length ((lx Lu l).flatMap et)/\(lx Lu l).length<=l.length/\Lt W w':=by
 have hp2:=hp;obtain⟨aC,cC,rfl,_⟩:=hp2;obtain⟨iC,hiC,zC0,zC1,zC2⟩:=info_parts info34;have hgl:=KQ W _ h0;have hgO:=KQ W _ h3;have HP:=aa hp;have HV:=aa hv;clear hp hv;go_enter func44,ntmps44;go_wp2_with fail;go_cut [5] (fun v5 wc=>v5=.pointer (some ⟨W.heap.size+1,0,none⟩)/\wc.heap[W.heap.size+1]?=some (.cells #[.string nm,.string rid,.slice none 0 0] 37 (0,0))/\Lt W wc/\wc.heap[W.heap.size]?=some (.cells #[.string ⟨#[]⟩,.string ⟨#[]⟩,.slice none 0 0] 37 (0,0)))
 case first=>
  go_region;all_goals(try go_wp2_with fail)
  all_goals(go_meet)
  obtain⟨X1,X2,X3⟩:=uw W (.cells #[.string ⟨#[]⟩,.string ⟨#[]⟩,.slice none 0 0] 37) (.cells #[.string nm,.string rid,.slice none 0 0] 37);exact⟨rfl,X2,X3.drew,X1⟩
 case rest=>
  obtain⟨rfl,hN,hb,h4⟩:=hcut;have hNb:=ag hN;have HN:=aa hN;have HBB:=aa hb;have H4:=aa h4;have hc:=ao hb hc;have hgl:g<wc.heap.size:=KQ wc _ hc;obtain⟨wb,rfl⟩:∃wb:World,wb=wc:=⟨_,rfl⟩;clear hN hb h4 h0 h1 h3 hgO;go_wp2_with fail;go_loopg [7,27] l.length (fun m v7 v27 wr=>∃(i:Nat) (vO:Value) (cs:List dd),v27=.int .i64 i/\i<=l.length/\l.length-i<=m/\wr.heap[W.heap.size+1]?=some (.cells #[.string nm,.string rid,vO] 37 (0,0))/\wr.ownsRow wb.heap.size 34 2 vO cs.length (cs.flatMap et)/\cs.length<=i/\cs=lx Lu (l.take i)/\Lt W wr/\wb.heap.size<=wr.heap.size/\wr.heap[W.heap.size]?=some (.cells #[.string ⟨#[]⟩,.string ⟨#[]⟩,.slice none 0 0] 37 (0,0)))
  case atStart=>exact⟨0,_,[],rfl,KU _,KK _,HN.o,K7 _ _ _ _,KK _,rfl,HBB.o,KK _,H4.o⟩
  case round=>
   obtain⟨i,vO,cs,rfl,hil,hm,hNr,hoC,hck,hcs,hb,hsb,h4⟩:=hrel;obtain⟨aQ,cQ,hvQ⟩:=bc hoC;subst hvQ;have HNR:=aa hNr;have hlN:=ag hNr;have HOC:=aa hoC;have HCS:=aa hcs;have HBK:=aa hb;have H4R:=aa h4;clear hNr hoC hcs hb h4 hc;by_cases hlt:i<l.length
   ·obtain⟨c,hcc⟩:∃c,l[i]?=some c:=⟨_,KM hlt⟩
    obtain⟨gC,oC,e,c0,c1,c2,c3,c4,c5,hf⟩:=(HP.o.below HBK.o).at hcc;subst e;have hgC:gC<wr.heap.size:=KQ wr _ c0;have HSE:=aa (fun X (hX:Lt wr X)=>Ko (HV.o.below (bT HBK.o hX)) (hf.below hX));have f0:=hf.c0;have hgf:c.g<wr.heap.size:=KQ wr _ f0;have HCT:=aa (show lx Lu (l.take (i+1))=cs++(if (jd Lu c.f.LG&&jd Lu c.f.LH)=true then [(c.f.name,c.t)]else [])from by
     rw[Ld,hcc,HCS.o];unfold lx;rw[List.filter_append,Lr];simp only[Option.toList];rw[List.filter_cons];unfold qB;split<;>simp)
    generalize (jd Lu c.f.LG&&jd Lu c.f.LH)=q at*;clear hf;go_wp2_with fail;refine(HSE.o _ (bA (KL _ _) _)).mono ?_;rintro _ _ ⟨rfl,rfl⟩;have hfg:Lt wr (wr.alloc (.cells #[.pointer (some ⟨c.g,c.o,none⟩),.string c.t,.int .i64 c.c.sh,.int .i64 c.c.n,.string c.c.s,.slice c.c.la c.c.ln c.c.lc] 173)):=bA (KL _ _) _;have hT:=KS wr (.cells #[.pointer (some ⟨c.g,c.o,none⟩),.string c.t,.int .i64 c.c.sh,.int .i64 c.c.n,.string c.c.s,.slice c.c.la c.c.ln c.c.lc] 173);generalize wr.alloc (.cells #[.pointer (some ⟨c.g,c.o,none⟩),.string c.t,.int .i64 c.c.sh,.int .i64 c.c.n,.string c.c.s,.slice c.c.la c.c.ln c.c.lc] 173)=wg at*;have HN9:=aa ((hfg.block _ hlN).trans HNR.o);have hlN9:=ag HN9.o;have H49:=aa ((hfg.block _ (ag H4R.o)).trans H4R.o);have HO9:=aa (bZ HOC.o hfg);have hb9:=aa (bT HBK.o hfg);have hszg:=hfg.size;have cT:=ae hT;have hlT:=ag hT;have f0:=ao hfg f0;have hgf:c.g<wg.heap.size:=by omega
    clear c0 c1 c2 c3 c4 c5 hgC hfg hT HSE;cases q
    ·go_wp2_with fail
     go_roundg (l.length-(i+1))
     case measure=>omega
     case rel=>exact⟨i+1,_,cs,by go_num,by omega,KK _,HN9.o,HO9.o,by omega,by rw[HCT.o];simp,hb9.o,by omega,H49.o⟩
    ·have hne:Option.some (W.heap.size+1)≠(Value.slice aQ cs.length cQ).ownBlock:=fun e=>jC HOC.o hNb e.symm
     have hne4:Option.some W.heap.size≠(Value.slice aQ cs.length cQ).ownBlock:=fun e=>jC HOC.o (show W.heap.size<wb.heap.size by omega) e.symm;have hcsl:cs.length<=1000000:=by omega
     have cN9:=ae HN9.o;have fN9:=ar HN9.o;go_wp2_with fail;go_region_law (first|(refine step_append_lies _ (by rfl) _ _ _ (by rfl) wb.heap.size 34 iC _ 2 32 underlying35 hiC zC0 zC1 zC2 rfl (by decide) _ _ _ (by rfl) (bZ HO9.o (by repeat' with_reducible first|exact KL _ _|refine bA ?_ _|refine Below.drew ?_)) ⟨wg.heap.size,0,none⟩ 1 1 [.string c.f.name,.string c.t] (by rfl) (by rfl) (de _ _ _ _ (by simp)) (pZ rfl rfl) (by decide) (by unfold maxLen;omega) (by omega) (by simp;omega) (wg.heap.size+1) (by simp) ?_;intro g cap w5 LV hgrow hat hg5;have g5:=(hgrow.block (W.heap.size+1) (by simp;omega) hne).trans ((by first|exact(bA (KL wg.heap.size wg) _).block _ hlN9|exact(bA (KL wg.heap.size wg) _).drew.block _ hlN9:_=wg.heap[W.heap.size+1]?).trans HN9.o);have e5:=ae g5;have f5:=ar g5));all_goals(try go_wp2_with fail)
     all_goals(
      have NC:=hgrow.size;simp at NC;go_roundg (l.length-(i+1))
      case measure=>omega
      case rel=>
       refine⟨i+1,_,cs++[(c.f.name,c.t)],by go_num,by omega,KK _,aJ g5 2 _,?_,by simp;omega,by rw[HCT.o];simp,?_,by simp[World.setCell];omega,?_⟩
       ·rw[Lb,List.flatMap_append]
        exact rU LV hNb 2 _
       ·exact⟨hgrow.os.trans hb9.o.os,hgrow.tape.trans hb9.o.tape,hgrow.output.trans hb9.o.output,by have:=hb9.o.size;simp[World.setCell];omega,fun j hj=>(KX _ _ _ _ (show j≠W.heap.size+1 by omega)).trans ((hgrow.block j (by have:=hb9.o.size;simp;omega) (fun e=>jC HOC.o (show j<wb.heap.size by omega) e.symm)).trans ((by first|exact(bA (KL wg.heap.size wg) _).block _ (by have:=hb9.o.size;omega)|exact(bA (KL wg.heap.size wg) _).drew.block _ (by have:=hb9.o.size;omega):_=wg.heap[j]?).trans (hb9.o.block j hj)))⟩
       ·exact(KX _ _ _ _ (show W.heap.size≠W.heap.size+1 by omega)).trans ((hgrow.block W.heap.size (by simp;omega) hne4).trans ((by first|exact(bA (KL wg.heap.size wg) _).block _ (by omega)|exact(bA (KL wg.heap.size wg) _).drew.block _ (by omega):_=wg.heap[W.heap.size]?).trans H49.o)))
   ·have hie:i=l.length:=by omega
    subst hie;have cN:=ae HNR.o;have c4:=ae H4R.o;have f4:=ar H4R.o;have hl4:=ag H4R.o;go_wp2_with fail;have hcs:cs=lx Lu l:=by rw[HCS.o,List.take_length]
    subst hcs;refine bodyPost_ret (v:=.agg #[.string nm,.string rid,.slice aQ (lx Lu l).length cQ]) (by simp[results,results44,go_sem, *]) rfl ⟨_,rfl,?_,hck,?_⟩
    ·refine nh (B:=wb.heap.size) ?_ (by omega)
     repeat' with_reducible first|exact HOC.o|refine lq ?_ (show _<wb.heap.size by omega) _ _
    ·repeat' with_reducible first|exact HBK.o|refine bS ?_ _ (KK _) _
structure qC(w:World)(gR j:Nat)(id:Ls)(Lu:List Ls)(z:Option bo):Prop where
 ex:∃(gO k B:Nat) (nm rid:Ls) (vC u:Value) (l:List eW) (rl:Option (List cw)) (t:aK),w.cell? ⟨gR,j*3,none⟩=some (.pointer (some ⟨gO,k,none⟩))/\w.cell? ⟨gR,j*3+1,none⟩=some (.string rid)/\w.cell? ⟨gR,j*3+2,none⟩=some vC/\w.cell? ⟨gO,k,none⟩=some (.string nm)/\w.cell? ⟨gO,k+3,none⟩=some u/\j5 w vC l/\l.length<=1000000/\jX w B u rl t/\z=if pW Lu id l rl t=true then none else some (nm,rid,lx Lu l)
theorem jX.below{w w':World}{B:Nat}{v:Value}{o:Option (List cw)}{t:aK}(h:jX w B v o t)(hb:Lt w w'):jX w' B v o t:=h.stays (au.of_below hb) (au.of_below hb)
theorem qC.below{w w':World}{gR j:Nat}{id:Ls}{Lu:List Ls}{z:Option bo}(h:qC w gR j id Lu z)(hb:Lt w w'):qC w' gR j id Lu z:=by
 obtain⟨gO,k,B,nm,rid,vC,u,l,rl,t,h0,h1,h2,h3,h4,h5,h6,h7,h8⟩:=h;exact⟨gO,k,B,nm,rid,vC,u,l,rl,t,ao hb h0,ao hb h1,ao hb h2,ao hb h3,ao hb h4,h5.below hb,h6,h7.below hb,h8⟩
theorem HiQ{W:World}{v T:Nat}{id:Ls}{Lu:List Ls}(hv:jY W v id Lu)(zs:List (Option bo))(a:Option Addr)(cap:Nat)(x y:Value)(hT:W.heap[T]?=some (.cells #[.slice a zs.length cap,x,y] 74 (0,0)))(hl:zs.length<=1000)(hz:zs=[]\/∃gR,a=some ⟨gR,0,none⟩/\∀j z,zs[j]?=some z->qC W gR j id Lu z):
 Calls prog 26 #[.pointer (some ⟨v,0,none⟩),.pointer (some ⟨T,0,none⟩)] W fun e w'=>∃vO xs,e=.returned vO/\dw w' W.heap.size vO xs/\xs.map (·.1)=zs.filterMap (fun z=>z)/\Lt W w':=by
 obtain⟨iY,hiY,zY0,zY1,zY2⟩:=info_parts info37;have cT:=ae hT;have hlT:=ag hT;have HV:=aa hv;have HZ:=aa hz;have HT:=aa hT;clear hv hz hT;go_enter func26,ntmps26;go_wp2_with fail;clear cT;go_loopg [5,6,7,13] zs.length (fun m v5 v6 v7 v13 wr=>∃(i:Nat) (xs:List OX),v13=.int .i64 i/\i<=zs.length/\zs.length-i<=m/\xs.length<=i/\dw wr W.heap.size v5 xs/\Lt W wr/\xs.map (·.1)=(zs.take i).filterMap (fun z=>z))
 case atStart=>exact⟨0,[],rfl,KU _,KK _,KK _,dw.nil _ _,KL _ _,rfl⟩
 case round=>
  obtain⟨i,xs,rfl,hil,hm,hxi,hO,hb,hxs⟩:=hrel;obtain⟨aO,cO,hvO⟩:=bc hO.own;subst hvO;have HO:=aa hO;have HB:=aa hb;have HXS:=aa hxs;have cT:=ae ((hb.block _ hlT).trans HT.o);have hlTr:T<wr.heap.size:=KV hlT hb.size;clear hO hb hxs;by_cases hlt:i<zs.length
  ·obtain⟨z,hz⟩:∃z,zs[i]?=some z:=⟨_,KM hlt⟩
   obtain⟨gR,e,hR⟩:=HZ.o.resolve_left (fun e=>by rw[e]at hlt;simp at hlt);subst e;obtain⟨gO,k,B,nm,rid,vC,u,l,rl,t,h0,h1,h2,h3,h4,h5,h6,h7,h8⟩:=((hR i z hz).below HB.o).ex;have HTK:=aa (show(zs.take (i+1)).filterMap (fun z=>z)=(zs.take i).filterMap (fun z=>z)++z.toList from by
    rw[Ld,hz,List.filterMap_append];cases z<;>simp)
   have HHI:=aa (Di (HV.o.below HB.o) vC u l rl t h0 h4 h2 h5 h6 h7);have HTO:=aa (fun X (hX:Lt wr X)=>Fo (HV.o.below (bT HB.o hX)) vC l (ao hX h0) (ao hX h1) (ao hX h3) (ao hX h2) (h5.below hX) h6);have HZZ:=aa h8;generalize pW Lu id l rl t=q at*;generalize lx Lu l=cs at*;clear h0 h1 h2 h3 h4 h5 h7 h8 hz hR;go_wp2_with fail;refine HHI.o.mono ?_;rintro _ w1 ⟨rfl,b1⟩;have HB1:=aa (bT HB.o b1);have HO1:=aa (HO.o.far (fun k _ h2=>b1.block k h2) b1.size);cases q
   ·go_wp2_with fail
    refine(HTO.o _ b1).mono ?_;rintro _ w2 ⟨vO,rfl,ho,hcl,b2⟩;obtain⟨aQ,cQ,hvQ⟩:=bc ho;subst hvQ;have HOC:=aa ho;have HB2:=aa (bT HB1.o b2);have HO2:=aa (HO1.o.far (fun k _ h2=>b2.block k h2) b2.size);have hsz2:=HB2.o.size;have hsz12:=b2.size;have hlt':∀j,(Value.slice aO xs.length cO).ownBlock=some j->j<w1.heap.size:=fun j hj=>ep HO1.o.own j hj;clear ho b1 b2 HHI HTO cT;go_wp2_with (at_builtin;refine wpList_append_lies _ rfl _ _ 23 rfl W.heap.size 37 iY _ 3 56 underlying23 hiY zY0 zY1 zY2 rfl (by decide) _ _ _ rfl (HO2.o.own.alloc _) ⟨w2.heap.size,0,none⟩ 1 1 [.string nm,.string rid,.slice aQ cs.length cQ] rfl rfl (de _ _ _ _ (by simp)) (BO rfl rfl rfl) (by decide) (by unfold maxLen;omega) (by omega) (by simp;omega) (w2.heap.size+1) (by simp) ?_;intro g' LM x3 hown' hgrow hwh hgs;have MS:=aa hown';have LT:=aa hgrow;have HWH:=aa hwh;clear hown' hgrow hwh);have hgz:=LT.o.size;simp at hgz;have MX:=aa (show∀j,j<w2.heap.size->(Value.slice aO xs.length cO).ownBlock≠some j->x3.heap[j]?=w2.heap[j]? from fun j h1 h2=>(LT.o.block j (by simp;omega) (fun e=>h2 e.symm)).trans (bp _ _ _ h1));go_roundg (zs.length-(i+1))
    case measure=>omega
    case rel=>
     refine⟨i+1,xs++[((nm,rid,cs),.slice aQ cs.length cQ)],by go_num,by omega,KK _,by simp;omega,?_,?_,?_⟩
     ·exact HO2.o.push (x:=((nm,rid,cs),.slice aQ cs.length cQ)) HOC.o (by have:=HB1.o.size;omega) (fun z hz g e=>ep (HO1.o.sub z hz) g e) MS.o (fun j _ h2 h3=>MX.o j h2 h3)
     ·exact⟨LT.o.os.trans HB2.o.os,LT.o.tape.trans HB2.o.tape,LT.o.output.trans HB2.o.output,by omega,fun j hj=>(MX.o j (by omega) (jC HO1.o.own (by omega))).trans (HB2.o.block j hj)⟩
     ·rw[HTK.o,HZZ.o,Lr,HXS.o];rfl
   ·go_wp2_with fail
    go_roundg (zs.length-(i+1))
    case measure=>omega
    case rel=>exact⟨i+1,xs,by go_num,by omega,KK _,by omega,HO1.o,HB1.o,by rw[HTK.o,HZZ.o,HXS.o];simp⟩
  ·have hie:i=zs.length:=by omega
   subst hie;go_wp2_with fail;go_ret;exact⟨_,xs,rfl,HO.o,by rw[HXS.o,List.take_length],HB.o⟩
def rE:RV->Nat×Int×Ls
 | .mk sh n s _=>(sh,n,s)
def rL(l:List dd)(x:Ls):Nat×Int×Ls:=if ah (l.map Prod.fst) x<0 then(0,0,⟨#[]⟩)else match l[(ah (l.map Prod.fst) x).toNat]? with
 |some c=>rE (pv (du c.2))
 |none=>(0,0,⟨#[]⟩)
def mP(l:List dd)(id n:Ls)(y:Option (Nat×Int×Ls)):Bool:=decide (rL l n=iQ id (iK y).1 (iK y).2.1 (iK y).2.2)
theorem bI.k{w:World}{B:Nat->Prop}:∀{k:Nat} {f:FV} {r:RV},bI w B k f r->(f.sh,f.n,f.s)=rE r
 |0,_,.mk ..,h=>by rw[rE,h.1,h.2.1,h.2.2.1]
 |_+1,_,.mk ..,h=>by rw[rE,h.1,h.2.1,h.2.2.1]
theorem Ha(f:FV)(m:Nat×Int×Ls):pX f m=decide ((f.sh,f.n,f.s)=m):=by
 obtain⟨a,b,c⟩:=m;unfold pX;rw[bY];simp only[Prod.mk.injEq];by_cases h1:f.sh=a<;>by_cases h2:f.n=b<;>by_cases h3:f.s=c<;>simp[h1,h2,h3]<;>omega
theorem Ht{w:World}{B:Nat->Prop}{k:Nat}(cs:List eW)(l:List dd)(e:cs.map (fun c=>(c.f.name,c.t))=l)(hv:∀c∈cs,bI w B k c.c (pv (du c.t)))(id:Ls):pD cs id=mP l id:=by
 funext n y;unfold pD mP;rw[Ha];have hm:cs.map e8=l.map Prod.fst:=by rw[<-e,List.map_map];rfl
 have:((j7 cs n).sh,(j7 cs n).n,(j7 cs n).s)=rL l n:=by
  unfold j7 rL;rw[hm];split
  ·rfl
  ·rw[<-e,La]
   rcases hj:cs[(ah ((cs.map (fun c=>(c.f.name,c.t))).map Prod.fst) n).toNat]? with _|c<;>rw[hj]
   ·rfl
   ·exact(hv c (KN hj)).k
 rw[this]
def o9(Lu:List Ls)(LS:List ax)(x:Ls):Bool:=match LS[(ah (LS.map ax.name) x).toNat]? with
 |some f=>qB Lu f
 |none=>false
theorem A7(Lu:List Ls)(LS:List ax):∀(cs:List eW),(∀c∈cs,LS[(ah (LS.map ax.name) c.f.name).toNat]?=some c.f)->lx Lu cs=(cs.map (fun c=>(c.f.name,c.t))).filter (fun c=>o9 Lu LS c.1)
 |[],_=>rfl
 |c::cs,h=>by
  have ih:=A7 Lu LS cs (fun x hx=>h x (List.mem_cons_of_mem _ hx));have h1:o9 Lu LS c.f.name=qB Lu c.f:=by unfold o9;rw[h c List.mem_cons_self]
  unfold lx at ih⊢;rw[List.filter_cons,List.map_cons,List.filter_cons,h1];split
  ·rw[List.map_cons,ih]
  ·exact ih
def lO(Lx:List aH)(id:Ls)(Lu:List Ls)(y:bo):Option bo:=match Lx[(ah (Lx.map aH.name) y.1).toNat]? with
 |none=>none
 |some o=>if (o.Lw.isSome&&!iI (fun n=>ba n Lu) (mP y.2.2 id) o.tree)=true then none else some (o.name,y.2.1,y.2.2.filter (fun c=>o9 Lu o.fields c.1))
theorem qO.seen{w:World}{S gO gR j:Nat}{vR vO vI vU vN:Value}{LR:List (aj×Value)}{LO:List lF}{LI:List (bC×Value)}{LU:List (bB×Value)}{names:List Ls}(h:SV w S vR vO vI vU vN LR LO LI LU names)(hg:∃c,vO=.slice (some ⟨gO,0,none⟩) LO.length c){y:bo}(hr:qO w gO gR j (LO.map Prod.fst) y)(hk:(ah ((LO.map Prod.fst).map aH.name) y.1).toNat<LO.length)(hl:y.2.2.length<=1000000)(id:Ls)(Lu:List Ls):
 qC w gR j id Lu (lO (LO.map Prod.fst) id Lu y):=by
 obtain⟨r,ek,eid,h0,h1,h2,hp,hc,hv⟩:=hr.ex;obtain⟨c,hvO⟩:=hg;obtain⟨x,hx⟩:∃x,LO[r.k]?=some x:=⟨_,KM (by rw[ek];exact hk)⟩;obtain⟨g,cap,e,LQ⟩:=h.o.cell (fun _=>rfl) r.k x hx;rw[hvO]at e;cases e;have hox:(LO.map Prod.fst)[r.k]?=some x.1:=by rw[La,hx];rfl
 have hu:=(h.o.ok x (KN hx)).2.2.2.2;refine⟨gO,r.k*4,S,x.1.name,y.2.1,r.v,x.2.2.2,r.cs,x.1.Lw,x.1.tree,h0,h1,h2,by simpa using LQ 0 _ rfl,LQ 3 _ rfl,hp,?_,hu,?_⟩
 ·rw[<-hc.e,Ll]at hl;exact hl
 ·unfold lO
  rw[<-ek,hox];unfold pW;simp only;rw[Ht r.cs y.2.2 hc.e hv id,A7 Lu x.1.fields r.cs (fun c hcm=>hc.f c hcm x.1 hox),hc.e]
structure rg(w:World)(S:Nat)(c:b9):Prop where
 ex:∃vR vO vI vU vN LR LO LI LU,SV w S vR vO vI vU vN LR LO LI LU c.names/\LR.map Prod.fst=c.Lu/\LO.map Prod.fst=c.Lx/\LI.map Prod.fst=c.ifs/\LU.map Prod.fst=c.uns
theorem rg.below{w w':World}{S:Nat}{c:b9}(h:rg w S c)(hb:Lt w w'):rg w' S c:=by
 obtain⟨vR,vO,vI,vU,vN,LR,LO,LI,LU,h1,h2⟩:=h.ex;exact⟨vR,vO,vI,vU,vN,LR,LO,LI,LU,h1.below hb,h2⟩
theorem jx.v{w:World}{S:Nat}{c:b9}(h:jx w S c)(hl:nK c 804):rg w S c:=by
 obtain⟨vR,vO,vI,vU,vN,LR,LO,LI,LU,hS,hR,hO,hI,hU,hN,mR,mO,mI,mU⟩:=h.ex;obtain⟨l1,l2,l3,l4,l5⟩:=hl;rw[<-mR]at l1;rw[<-mO]at l2;rw[<-mI]at l3;rw[<-mU]at l4;exact⟨vR,vO,vI,vU,vN,LR,LO,LI,LU,⟨hS,hR,hO,hI,hU,hN,by simpa using l1,by simpa using l2,by simpa using l3,by simpa using l4,l5⟩,mR,mO,mI,mU⟩
theorem Gm(x:Ls)(w:World)(hs:x.size<=maxLen):
 Calls prog 22 #[.string x] w fun e w'=>∃q,e=.returned (.tuple #[.pointer q,.int .i64 (iw x)])/\Lt w w'/\(iw x=0->∃S,q=some ⟨S,0,none⟩/\rg w' S (cc (av x)).1):=by
 have hc:=FX x w hs;have hz:m6 (cc (av x)).1:=xl _ (xB x);have HQ:=aa (show iw x=if jW (cc (av x)).2=true then(if jz (cc (av x)).1=true then 0 else 2)else 1 from rfl);generalize iw x=FF at*;generalize cc (av x)=cs at*;have HZ:=aa hz;clear hz;cases hd:jW cs.2
 ·rw[hd]at hc HQ
  go_enter func22,ntmps22;go_wp2_with fail;refine hc.mono ?_;clear hc;rintro e w1 ⟨S,rfl,hS,hl,hB1⟩;go_wp2_with fail;go_ret2;exact⟨_,by rw[HQ.o];rfl,hB1,fun h=>by rw[HQ.o]at h;cases h⟩
 ·rw[hd]at hc HQ
  cases hr:jz cs.1
  ·rw[hr]at HQ
   go_enter func22,ntmps22;go_wp2_with fail;refine hc.mono ?_;clear hc;rintro e w1 ⟨S,rfl,hS,hl,hB1⟩;have hc2:=CG w1 S cs.1 hS hl HZ.o;rw[hr]at hc2;clear hS hl hr;go_wp2_with fail;refine hc2.mono ?_;clear hc2;rintro e w2 ⟨rfl,hb2⟩;go_wp2_with fail;go_ret2;exact⟨_,by rw[HQ.o];rfl,hB1.trans (hb2.mono hB1.size),fun h=>by rw[HQ.o]at h;cases h⟩
  ·rw[hr]at HQ
   go_enter func22,ntmps22;go_wp2_with fail;refine hc.mono ?_;clear hc;rintro e w1 ⟨S,rfl,hS,hl,hB1⟩;have hc2:=CG w1 S cs.1 hS hl HZ.o;rw[hr]at hc2;have HV:=aa (hS.v hl);clear hS hl hr;go_wp2_with fail;refine hc2.mono ?_;clear hc2;rintro e w2 ⟨rfl,hb2⟩;go_wp2_with fail;go_ret2;exact⟨_,by rw[HQ.o];rfl,hB1.trans (hb2.mono hB1.size),fun _=>⟨S,rfl,HV.o.below hb2⟩⟩
section
variable {w:World} {S:Nat} {vR vO vI vU vN:Value} {LR:List (aj×Value)} {LO:List lF} {LI:List (bC×Value)} {LU:List (bB×Value)} {names:List Ls}
theorem G7(h:SV w S vR vO vI vU vN LR LO LI LU names)(hnd:(LR.map rN).Nodup)(Nd:∀x∈LR,∀y∈x.1.LA,y∈LR.map rN/\y.size<=4000)(hsz:∀y∈LR.map rN,y.size<=4000)(LK vid:Ls)(hr:LK.size<=2000000):
 Calls prog 25 #[.pointer (some ⟨S,0,none⟩),.agg #[.string LK,.string vid]] w fun e w'=>∃q,e=.returned (.tuple #[.pointer q,.int .i64 (if fW (LR.map Prod.fst) LK=[]then 4 else 0)])/\Lt w w'/\(fW (LR.map Prod.fst) LK≠[]->∃V,q=some ⟨V,0,none⟩/\jY w' V vid (fW (LR.map Prod.fst) LK)):=by
 have HH:=aa (fun X (hX:Lt w X)=>Dx (h.below hX) hnd Nd hsz LK hr);generalize fW (LR.map Prod.fst) LK=rs at*;clear h hnd Nd hsz;by_cases hne:rs=[]
 ·subst hne
  rw[K9 rfl];go_enter func25,ntmps25;go_wp2_with fail;refine(HH.o _ (bA (KL _ _) _)).mono ?_;rintro _ w1 ⟨v,rfl,⟨a,cap,rfl, -⟩, -,b1⟩;go_wp2_with fail;go_ret2;exact⟨_,rfl,bT (bA (KL _ _) _) b1,fun h=>absurd rfl h⟩
 ·rw[K8 hne]
  have hpos:¬(rs.length:Int)=0:=fun e=>hne (KZ (by omega));have HNE:=aa hne;clear hne;go_enter func25,ntmps25;go_wp2_with fail;refine(HH.o _ (bA (KL _ _) _)).mono ?_;rintro _ w1 ⟨v,rfl,hv,hvl,b1⟩;have HV:=aa hv;have hN:=fO b1 (KS w (.cells #[.string LK,.string vid] 25));have HB1:=aa (bT (bA (KL _ _) _) b1);have cN:=ae hN;have hlN:=ag hN;obtain⟨a,cap,rfl, -⟩:=hv;clear hN b1;go_wp2_with fail;go_ret2;exact⟨_,rfl,bA HB1.o _,fun _=>⟨w1.heap.size,rfl,⟨⟨a,cap,KS w1 _,HV.o.below (bA (KL _ _) _)⟩,by omega⟩⟩⟩
end
def kO(c:b9)(ys:List bo):Bool:=lT c.Lx (c.ifs.map bC.name) (c.uns.map bB.name) c.uns ys
def km(x:Ls)(ys:List bo):Nat:=if iw x=0 then(if kO (cc (av x)).1 ys=true then 0 else 3)else iw x
structure qA(w:World)(T:Nat)(c:b9)(ys:List bo):Prop where
 ex:∃S gO vR vO vI vU vN LR LO LI LU,SV w S vR vO vI vU vN LR LO LI LU c.names/\LR.map Prod.fst=c.Lu/\LO.map Prod.fst=c.Lx/\(∃k,vO=.slice (some ⟨gO,0,none⟩) LO.length k)/\qR w T S gO c.Lx ys
theorem ro(x:Ls)(h:iw x=0):jz (cc (av x)).1=true:=by
 unfold iw at h;split at h
 ·split at h
  ·assumption
  ·cases h
 ·cases h
theorem FA{c:b9}(h:jz c=true):c.Lx≠[]:=fun e=>by
 unfold jz at h;simp only[Li]at h;have:=h.2.2.2.2.2;rw[e]at this;cases this
theorem CV(x:Ls)(w:World)(hs:x.size<=maxLen)(aY:Option Addr)(cY:Nat)(ys:List bo)(hY:eM w (.slice aY ys.length cY) ys)(hyl:ys.length<=1000000)(hcl:∀y∈ys,y.2.1.size<=2000000/\y.2.2.length<=900000/\∀c∈y.2.2,c.2.size<=2000000):
 Calls prog 24 #[.string x,.slice aY ys.length cY] w fun e w'=>∃q,e=.returned (.tuple #[.pointer q,.int .i64 (km x ys)])/\Lt w w'/\(km x ys=0->∃T,q=some ⟨T,0,none⟩/\qA w' T (cc (av x)).1 ys):=by
 have HR:=aa (Gm x w hs);have HRC:=aa (show km x ys=if iw x=0 then(if kO (cc (av x)).1 ys=true then 0 else 3)else iw x from rfl);have HRI:=aa (ro x);generalize km x ys=RC at*;generalize iw x=k at*;generalize (cc (av x)).1=c at*;by_cases hk:k=0
 ·subst hk
  rw[K9 rfl]at HRC;have HO:=aa (FA (HRI.o rfl));go_enter func24,ntmps24;go_wp2_with fail;refine HR.o.mono ?_;rintro _ w1 ⟨q,rfl,b1,hS⟩;obtain⟨S,rfl,hS2⟩:=hS trivial;obtain⟨vR,vO,vI,vU,vN,LR,LO,LI,LU,hsv,mR,mO,mI,mU⟩:=hS2.ex;obtain⟨gO,hgO⟩:∃gO,∃k,vO=.slice (some ⟨gO,0,none⟩) LO.length k:=by
   rcases hsv.o.own.2 with⟨_,e⟩|⟨g,cap,cur,hv,_⟩
   ·exact absurd (by rw[<-mO,KZ e];rfl) HO.o
   ·exact⟨g,cap,hv⟩
  have HSR:=aa (Gw w1 hsv hgO aY cY ys (hY.below b1) hyl hcl);have HK:=aa (And.intro hsv (And.intro mR (And.intro mO hgO)));have e1:lT (LO.map Prod.fst) (LI.map iN) (LU.map uN) (LU.map Prod.fst) ys=kO c ys:=by
   unfold kO;rw[mO,mU,<-mI,<-mU,List.map_map,List.map_map];rfl
  rw[e1]at HSR;rw[mO]at HSR;generalize kO c ys=st at*;clear hS hS2 hsv mR mO mI mU hgO e1 hY hcl;cases st
  ·go_wp2_with fail
   refine HSR.o.mono ?_;rintro _ w2 ⟨q,rfl,b2, -⟩;go_wp2_with fail;go_ret2;exact⟨_,by rw[HRC.o];rfl,bT b1 b2,fun e=>by rw[HRC.o]at e;cases e⟩
  ·go_wp2_with fail
   refine HSR.o.mono ?_;rintro _ w2 ⟨q,rfl,b2,hT⟩;obtain⟨T,rfl,hT2⟩:=hT trivial;go_wp2_with fail;go_ret2;obtain⟨h1,h2,h3,h4⟩:=HK.o;exact⟨_,by rw[HRC.o];rfl,bT b1 b2,fun _=>⟨T,rfl,S,gO,vR,vO,vI,vU,vN,LR,LO,LI,LU,h1.below b2,h2,h3,h4,hT2⟩⟩
 ·rw[K8 hk]at HRC
  have hk2:¬(k:Int)=0:=by omega
  have HK:=aa hk;clear hk hY hcl;go_enter func24,ntmps24;go_wp2_with fail;refine HR.o.mono ?_;rintro _ w1 ⟨q,rfl,b1, -⟩;go_wp2_with fail;go_ret2;exact⟨_,by rw[HRC.o];rfl,b1,fun e=>absurd (HRC.o.symm.trans e) HK.o⟩
def iO(x:Ls)(ys:List bo)(LK vid:Ls):List bo×Nat:=if km x ys=0 then(if fW (cc (av x)).1.Lu LK=[]then([],4)else((ys.map (lO (cc (av x)).1.Lx vid (fW (cc (av x)).1.Lu LK))).filterMap (fun z=>z),0))else([],km x ys)
structure rX(l:List aj):Prop where
 n:(l.map aj.name).Nodup
 i:∀x∈l,∀y∈x.LA,y∈l.map aj.name/\y.size<=4000
 s:∀y∈l.map aj.name,y.size<=4000
theorem yz{c:b9}(h:jz c=true)(hz:m6 c):rX c.Lu:=by
 unfold jz r9 at h;simp only[Li]at h;obtain⟨⟨h1,h2, -⟩, -⟩:=h;refine⟨(kR _).1 h1,fun x hx y hy=>?_,fun y hy=>?_⟩
 ·rw[Lh]at h2
  have h3:=h2 x hx;rw[Lh]at h3;exact⟨(ii _ _).1 (h3 y hy),(hz.1 x hx).2 y hy⟩
 ·obtain⟨x,hx,rfl⟩:=List.mem_map.1 hy
  exact(hz.1 x hx).1
theorem BY{x:Ls}{ys:List bo}(h:km x ys=0):iw x=0/\kO (cc (av x)).1 ys=true:=by
 unfold km at h;split at h
 ·refine⟨‹_›,?_⟩
  split at h
  ·assumption
  ·cases h
 ·exact absurd h ‹_›
theorem qA.rows{w:World}{T:Nat}{c:b9}{ys:List bo}(h:qA w T c ys)(hs:kO c ys=true)(hcl:∀y∈ys,y.2.2.length<=1000000)(id:Ls)(Lu:List Ls):
 ∃a cap u v,w.heap[T]?=some (.cells #[.slice a ys.length cap,u,v] 74 (0,0))/\(ys.map (lO c.Lx id Lu)=[]\/∃gR,a=some ⟨gR,0,none⟩/\∀j z,(ys.map (lO c.Lx id Lu))[j]?=some z->qC w gR j id Lu z):=by
 obtain⟨S,gO,vR,vO,vI,vU,vN,LR,LO,LI,LU,hsv,mR,mO,hg,hT⟩:=h.ex;obtain⟨a,cap,M,hb,hr⟩:=hT.ex;refine⟨a,cap,_,_,hb,?_⟩;rcases hr with e|⟨gR,ea,hr⟩
 ·left;rw[e];rfl
 ·refine Or.inr ⟨gR,ea,fun j z hz=>?_⟩
  rw[La]at hz;rcases hj:ys[j]? with _|y<;>rw[hj]at hz
  ·simp at hz
  ·simp only[Option.map_some,Option.some.injEq]at hz
   subst hz;have hi:0<=ah (c.Lx.map aH.name) y.1:=by
    unfold kO lT at hs;simp only[Li]at hs;exact r7 _ _ _ hs.2.1 y (KN hj)
   obtain⟨fi,o,e1,e2, -⟩:=iW aH.name c.Lx y.1 (by omega);rw[<-mO]at hr e1 e2⊢;exact(hr j y hj).seen hsv hg (by rw[e1];have:=(KO.1 e2).1;simpa using this) (hcl y (KN hj)) id Lu
theorem qA.below{w w':World}{T:Nat}{c:b9}{ys:List bo}(h:qA w T c ys)(hb:Lt w w'):qA w' T c ys:=by
 obtain⟨S,gO,vR,vO,vI,vU,vN,LR,LO,LI,LU,hsv,mR,mO,hg,hT⟩:=h.ex;exact⟨S,gO,vR,vO,vI,vU,vN,LR,LO,LI,LU,hsv.below hb,mR,mO,hg,hT.below hb⟩
theorem Fz(x:Ls)(w:World)(hs:x.size<=maxLen)(aY:Option Addr)(cY:Nat)(ys:List bo)(LK vid:Ls)(hY:eM w (.slice aY ys.length cY) ys)(hyl:ys.length<=1000000)(hcl:∀y∈ys,y.2.1.size<=2000000/\y.2.2.length<=900000/\∀c∈y.2.2,c.2.size<=2000000)(hk:¬km x ys=0):
 Calls prog 13 #[.string x,.slice aY ys.length cY,.agg #[.string LK,.string vid]] w fun e w'=>e=.returned (.tuple #[.slice none 0 0,.int .i64 (km x ys)])/\Lt w w':=by
 have HR:=aa (fun X (hX:Lt w X)=>CV x X hs aY cY ys (hY.below hX) hyl hcl);generalize km x ys=k at*;have hk2:¬(k:Int)=0:=by omega
 clear hk hY hcl;go_enter func13,ntmps13;go_wp2_with fail;refine(HR.o _ (bA (KL _ _) _)).mono ?_;rintro _ w1 ⟨q,rfl,b1, -⟩;go_wp2_with fail;go_ret2;exact⟨rfl,bT (bA (KL _ _) _) b1⟩
theorem GT(x:Ls)(w:World)(hs:x.size<=maxLen)(aY:Option Addr)(cY:Nat)(ys:List bo)(LK vid:Ls)(hr:LK.size<=2000000)(hY:eM w (.slice aY ys.length cY) ys)(hyl:ys.length<=1000000)(hcl:∀y∈ys,y.2.1.size<=2000000/\y.2.2.length<=900000/\∀c∈y.2.2,c.2.size<=2000000)(hk:km x ys=0):
 Calls prog 13 #[.string x,.slice aY ys.length cY,.agg #[.string LK,.string vid]] w fun e w'=>∃vO xs,e=.returned (.tuple #[vO,.int .i64 (iO x ys LK vid).2])/\dw w' w.heap.size vO xs/\xs.map (·.1)=(iO x ys LK vid).1/\Lt w w':=by
 have HR:=aa (fun X (hX:Lt w X)=>CV x X hs aY cY ys (hY.below hX) hyl hcl);obtain⟨hch,hst⟩:=BY hk;have hok:=yz (ro x hch) (xl _ (xB x));have HSP:=aa (show iO x ys LK vid=if fW (cc (av x)).1.Lu LK=[]then([],4)else((ys.map (lO (cc (av x)).1.Lx vid (fW (cc (av x)).1.Lu LK))).filterMap (fun z=>z),0)from by unfold iO;rw[K9 hk]);rw[hk]at HR;generalize iO x ys LK vid=SP at*;generalize (cc (av x)).1=c at*;have HOK:=aa hok;have HST:=aa hst;have HCL:=aa hcl;have hyl2:ys.length<=200:=by
  unfold kO lT at hst;simp only[Li,Lc]at hst;exact hst.1
 clear hk hch hst hok hY hcl;go_enter func13,ntmps13;go_wp2_with fail;refine(HR.o _ (bA (KL _ _) _)).mono ?_;rintro _ w1 ⟨q,rfl,b1,hK⟩;obtain⟨T,rfl,hK2⟩:=hK trivial;have hN:=fO b1 (KS w (.cells #[.string LK,.string vid] 25));have HB1:=aa (bT (bA (KL _ _) _) b1);have HK:=aa hK2;obtain⟨S,gO,vR,vO,vI,vU,vN,LR,LO,LI,LU,hsv,mR,mO,hg,hT⟩:=hK2.ex;obtain⟨a,cap,M,hb, -⟩:=hT.ex;have em:LR.map rN=c.Lu.map aj.name:=by rw[<-mR,List.map_map];rfl
 have HOF:=aa (fun X (hX:Lt w1 X)=>G7 (hsv.below hX) (by rw[em];exact HOK.o.n) (fun x hx y hy=>by rw[em];exact HOK.o.i x.1 (by rw[<-mR];exact List.mem_map_of_mem hx) y hy) (fun y hy=>HOK.o.s y (by rw[<-em];exact hy)) LK vid hr);rw[mR]at HOF;generalize fW c.Lu LK=rs at*;have cN:=ae hN;have cT:=ae hb;have hlN:=ag hN;have hlT:=ag hb;clear hK hK2 hsv mR mO hg hT em HR b1 hN hb;by_cases hrs:rs=[]
 ·rw[K9 hrs]at HOF HSP
  clear hrs;go_upto_region 4 with fail;have HS:=aa (fun V (hV:Lt w1 V)=>And.intro hV (And.intro (fun k=>(hV.cell (p:=⟨w.heap.size,k,none⟩) hlN).trans (cN k)) (fun k=>(hV.cell (p:=⟨T,k,none⟩) hlT).trans (cT k))));clear cN cT;go_region_held3 (fun V=>Lt w1 V/\(∀k,V.cell? ⟨w.heap.size,k,none⟩=(#[.string LK,.string vid]:Array Value)[k]?)/\(∀k,V.cell? ⟨T,k,none⟩=(#[.slice a ys.length cap,.pointer (some ⟨S,0,none⟩),.map (some M)]:Array Value)[k]?))
   (first|exact HS.o _ (KL _ _).drew|exact HS.o _ (bT bh b2))
   (first|(go_at_call 25;obtain⟨bh, -⟩:= ‹Lt w1 _/\_›;refine(HOF.o _ bh).mono ?_;rintro _ w2 ⟨q,rfl,b2,hv2⟩;have HV2:=aa hv2;clear hv2))
  all_goals(obtain⟨bh, -⟩:= ‹Lt w1 _/\_›;(try go_wp2_with fail);go_ret2;exact⟨_,[],by rw[HSP.o];rfl,dw.nil _ _,by rw[HSP.o];rfl,bT HB1.o bh⟩)
 ·rw[K8 hrs]at HOF HSP
  have HRS:=aa hrs;clear hrs;go_upto_region 4 with fail;have HS:=aa (fun V (hV:Lt w1 V)=>And.intro hV (And.intro (fun k=>(hV.cell (p:=⟨w.heap.size,k,none⟩) hlN).trans (cN k)) (fun k=>(hV.cell (p:=⟨T,k,none⟩) hlT).trans (cT k))));clear cN cT;go_region_held3 (fun V=>Lt w1 V/\(∀k,V.cell? ⟨w.heap.size,k,none⟩=(#[.string LK,.string vid]:Array Value)[k]?)/\(∀k,V.cell? ⟨T,k,none⟩=(#[.slice a ys.length cap,.pointer (some ⟨S,0,none⟩),.map (some M)]:Array Value)[k]?))
   (first|exact HS.o _ (KL _ _).drew|exact HS.o _ (bT bh b2))
   (first|(go_at_call 25;obtain⟨bh, -⟩:= ‹Lt w1 _/\_›;refine(HOF.o _ bh).mono ?_;rintro _ w2 ⟨q,rfl,b2,hv2⟩;have HV2:=aa hv2;clear hv2))
  all_goals(
   obtain⟨bh, -⟩:= ‹Lt w1 _/\_›;obtain⟨V,rfl,hV⟩:=HV2.o HRS.o;obtain⟨a',LM,u',v',hT',Ma⟩:=(HK.o.below bh).rows HST.o (fun y hy=>by have:=(HCL.o y hy).2.1;omega) vid rs;rw[<-Ll (f:=lO c.Lx vid rs)]at hT';have HRW:=aa (HiQ hV (ys.map (lO c.Lx vid rs)) a' LM u' v' hT' (by rw[Ll];omega) Ma);clear hV hT' Ma HK HOF HV2;go_wp2_with fail;refine HRW.o.mono ?_;rintro _ w3 ⟨vO,xs,rfl,hO,hxs,b3⟩;go_wp2_with fail;go_ret2;exact⟨_,xs,by rw[HSP.o];rfl,hO.low (bT HB1.o bh).size,by rw[HSP.o];exact hxs,bT (bT HB1.o bh) b3⟩)
theorem yb(x:Ls)(w:World)(hs:x.size<=maxLen)(aY:Option Addr)(cY:Nat)(ys:List bo)(LK vid:Ls)(hr:LK.size<=2000000)(hY:eM w (.slice aY ys.length cY) ys)(hyl:ys.length<=1000000)(hcl:∀y∈ys,y.2.1.size<=2000000/\y.2.2.length<=900000/\∀c∈y.2.2,c.2.size<=2000000):
 Calls prog 13 #[.string x,.slice aY ys.length cY,.agg #[.string LK,.string vid]] w fun e w'=>∃vO xs,e=.returned (.tuple #[vO,.int .i64 (iO x ys LK vid).2])/\dw w' w.heap.size vO xs/\xs.map (·.1)=(iO x ys LK vid).1/\Lt w w':=by
 by_cases hk:km x ys=0
 ·exact GT x w hs aY cY ys LK vid hr hY hyl hcl hk
 ·refine(Fz x w hs aY cY ys LK vid hY hyl hcl hk).mono ?_
  rintro _ w' ⟨rfl,hb⟩;have e:iO x ys LK vid=([],km x ys):=by unfold iO;rw[K8 hk]
  exact⟨_,[],by rw[e],dw.nil _ _,by rw[e];rfl,hb⟩
end Go.Proofs.YtgbloieahmkcjaaGreat
