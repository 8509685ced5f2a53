import Derived.Test.YtgbloieahmkcjaaGreatC29
import Derived.Test.YtgbloieahmkcjaaGreatC23
import Derived.Deep.RegionHeld3
import Derived.Deep.RegionLaw
import Derived.Deep.AppendLies
import Derived.Deep.DrawnRows
namespace Go.Proofs.YtgbloieahmkcjaaGreat
set_option maxHeartbeats 20000000
set_option maxRecDepth 100000
open Go.RowKit Tryz
theorem Kz{w0 W:World}{aR:Option Addr}{nR cR:Nat}{aD:Option Addr}{cD:Nat}{aL:Option Addr}{cL:Nat}{Lv:List ap}{rows:List cy}(hE:uX w0 aD cD aL cL Lv rows)(hB:Lt w0 W)
 (c tt vs:Ls) (vn:Int) (vla:Option Addr) (vln vlc kc fi:Nat) (r:cy) (d tc:ap)
 (hi:∀W,Calls prog 87 #[.string tt] W fun e w'=>e=.returned (.string ⟨#[]⟩)/\w'=W) (hc:∀W,Calls prog 88 #[.string tt] W fun e w'=>e=.returned (.string c)/\w'=W)
 (b1:(c.toList==[73,110,116])=false) (b2:(c.toList==[83,116,114,105,110,103])=false) (b3:(c.toList==[73,68])=false) (b4:(c.toList==[66,111,111,108,101,97,110])=false)
 (hkc:ah (Lv.map ap.name) c=kc) (htc:Lv[kc]?=some tc) (hfi:ah (rows.map cy.id) vs=fi) (hr:rows[fi]?=some r) (hd:Lv[r.d]?=some d):
 Calls prog 48 #[.agg #[.slice aR nR cR,.slice aD Lv.length cD],.agg #[.int .i64 4,.int .i64 vn,.string vs,.slice vla vln vlc],.string tt,.slice aL rows.length cL] W fun e w'=>e=.returned (.bool (!(d.name.toList==[81,117,101,114,121])&&l9 d tc r.d kc))/\Lt W w':=by
 have hll:=hE.ll;have hdl:=hE.dl;have hfil:=(KO.1 hr).1;have hof:=fun W (hW:Lt w0 W)=>Fc aR nR cR (.slice aD Lv.length cD) Lv d tc r.d kc W (hE.d.below hW) hd htc (by omega) (hE.da d (KN hd)).1 (hE.da tc (KN htc)).1 (hE.da tc (KN htc)).2;have hdf:=fun W (hW:Lt w0 W)=>sq aR nR cR (.slice aD Lv.length cD) c (Lv.map ap.name) W ((hE.d.below hW).names) (by simp;omega);have hf:=fun W (hW:Lt w0 W)=>wN (.slice aL rows.length cL) vs (rows.map cy.id) W ((hE.l.below hW).names) (by simp;omega);rw[hkc]at hdf;rw[hfi]at hf;obtain⟨gL,aN,cN,aV,cV,fs,e,r0,r1,r2,r3,_⟩:=(hE.l.below hB).at hr;subst e;obtain⟨gD,aF,cF,aA,cA,aT,cT,e,d0,d1,d2,d3,d4,d5,_⟩:=(hE.d.below hB).at hd;subst e;have hrd:=hE.rd r (KN hr);have HOF:=aa hof;have HDF:=aa hdf;generalize hq:(!(d.name.toList==[81,117,101,114,121])&&l9 d tc r.d kc)=q;have HG:=aa hq;clear hfi hkc hd htc hr hof hdf hq;go_enter func48,ntmps48;go_wp2_with fail;refine(hi _).mono ?_;rintro _ w' ⟨rfl,hw'⟩;have hw':=hw'.symm;subst hw';go_wp2_with fail;refine(hc _).mono ?_;rintro _ w' ⟨rfl,hw'⟩;have hw':=hw'.symm;subst hw';go_wp2_with fail;refine(hf _ (bA (bA hB _) _)).mono ?_;rintro _ w' ⟨rfl,hw'⟩;have hw':=hw'.symm;subst hw';go_wp2_with fail;obtain⟨X1,X2,X3⟩:=uw W (.cells #[.slice aR nR cR,.slice (some ⟨gD,0,none⟩) Lv.length cD] 62) (.cells #[.int .i64 4,.int .i64 vn,.string vs,.slice vla vln vlc] 119);generalize (W.alloc (.cells #[.slice aR nR cR,.slice (some ⟨gD,0,none⟩) Lv.length cD] 62)).alloc (.cells #[.int .i64 4,.int .i64 vn,.string vs,.slice vla vln vlc] 119)=W2 at*;have cx:=ae X1;have hlx:=ag X1;have r0:=ao X3 r0;have d1:=ao X3 d1;have HX3:=aa X3;have HB2:=aa (bT hB X3);clear r1 r2 r3 d0 d2 d3 d4 d5 hi hc hf X1 X2 X3 hB hE b1 b2 b3 b4;generalize l9 d tc r.d kc=qo at*;cases bq:(d.name.toList==[81,117,101,114,121])
 rotate_left
 ·rw[bq]at HG
  go_quiet (fail);go_wp2_with fail;go_ret;exact⟨am (by rw[<-HG.o];rfl),below_drewN HX3.o _⟩
 ·rw[bq]at HG
  have hi0:(0:Int)<=(fi:Int):=by omega
  have hi1:(fi:Int)<(rows.length:Int):=by omega
  have hk0:(0:Int)<=(r.d:Int):=by omega
  have hk1:(r.d:Int)<(Lv.length:Int):=by omega
  have HS:=aa (fun V (hV:Lt W2 V)=>And.intro hV (And.intro (ao hV r0) (And.intro (ao hV d1) (fun k=>(hV.cell (p:=⟨W.heap.size,k,none⟩) hlx).trans (cx k)))));clear r0 d1 cx;go_region_held3 (fun V=>Lt W2 V/\V.cell? ⟨gL,fi*4,none⟩=some (.int .i64 r.d)/\V.cell? ⟨gD,r.d*6+1,none⟩=some (.string d.name)/\∀k,V.cell? ⟨W.heap.size,k,none⟩=(#[.slice aR nR cR,.slice (some ⟨gD,0,none⟩) Lv.length cD]:Array Value)[k]?)
   (first|exact HS.o _ (KL _ _).drew|exact HS.o _ (bT bh b2)|exact HS.o _ (bT bh b1))
   (first
   |(go_at_call 74;obtain⟨bh, -⟩:= ‹Lt W2 _/\_›;refine(HDF.o _ (bT HB2.o bh)).mono ?_;rintro _ w1 ⟨rfl,b1⟩)
   |(go_at_call 89;obtain⟨bh, -⟩:= ‹Lt W2 _/\_›;refine(HOF.o _ (bT HB2.o bh)).mono ?_;rintro _ w2 ⟨rfl,b2⟩))
  all_goals(obtain⟨bh, -⟩:= ‹Lt W2 _/\_›;(try go_wp2_with fail);go_ret;exact⟨am (by rw[<-HG.o];simp),bT HX3.o bh⟩)
theorem JM{w0:World}{aR:Option Addr}{nR cR:Nat}{aD:Option Addr}{cD:Nat}{aL:Option Addr}{cL:Nat}{Lv:List ap}{rows:List cy}(hE:uX w0 aD cD aL cL Lv rows):
 ∀(ty:dh),fZ ty->(ci ty).size<=100000->(co (bN ty)=true\/¬ah (Lv.map ap.name) (bN ty)<0)->Fs w0 aR nR cR aD cD aL cL Lv rows ty:=by
 intro ty
 induction ty with
 |one c st=>
  intro hwf hsz hcore W v r k hB hv hsm;obtain⟨sh,n,s,l⟩:=r;obtain⟨vsh,vn,vs,vla,vln,vlc⟩:=v;obtain⟨e1,e2,e3,e4⟩:=hv.parts;simp only at e1 e2 e3 e4;subst e1 e3;have hi:=fun W=>yI (ci (.one c st)) W (xG _ hwf) (fun e=>by rw[qV _ hwf]at e;simp[mw]at e) hsz;rw[Kh c st hwf]at hi;have hc:=fun W=>vm (ci (.one c st)) W hsz;rw[tF _ hwf]at hc;simp only[bN]at hc hcore;have hq:fk (fH Lv rows) (.one c st) (.mk vsh n vs l)=if vsh=0\/vsh=6 then true else if (c.toList==[73,110,116])=true then decide (vsh=1)else if ((c.toList==[83,116,114,105,110,103])||(c.toList==[73,68]))=true then decide (vsh=2)else if (c.toList==[66,111,111,108,101,97,110])=true then decide (vsh=3)else decide (vsh=4)&&fH Lv rows c vs:=by
   have e:∀(l:List UInt8),(c.toList==l)=decide (c=aE l):=fun l=>by rw[<-bY,Lib.toList_data (aE l)];simp[aE]
   simp only[fk,e,Bool.or_eq_true,Lc];rfl
  have hsc:co c=((c.toList==[73,110,116])||(c.toList==[83,116,114,105,110,103])||(c.toList==[66,111,111,108,101,97,110])||(c.toList==[73,68])):=xA c;have HQ:=aa hq;have HSC:=aa hsc;have HCO:=aa hcore;generalize fk (fH Lv rows) (.one c st) (.mk vsh n vs l)=q at*;generalize ci (.one c st)=tt at*;simp only[bw];clear hq hsc hcore hv hsm e2 e4;by_cases h06:vsh=0\/vsh=6
  ·have HT:=aa (show q=true from by rw[HQ.o,K9 h06])
   have h1:(((vsh:Int)==0)||((vsh:Int)==6))=true:=by simp;omega
   cases h2:((vsh:Int)==0)<;>rw[h2]at h1;all_goals
    go_enter func48,ntmps48;go_wp2_with fail;go_ret;refine⟨am HT.o.symm,?_⟩;repeat' with_reducible first|exact KL _ _|refine bA ?_ _
  ·have h0:((vsh:Int)==0)=false:=by simp;omega
   have h6:((vsh:Int)==6)=false:=by simp;omega
   have HT:=aa (HQ.o.trans (K8 h06));clear HQ h06;cases b1:(c.toList==[73,110,116])<;>cases b2:(c.toList==[83,116,114,105,110,103])<;>cases b3:(c.toList==[73,68])<;>cases b4:(c.toList==[66,111,111,108,101,97,110])<;>rw[b1,b2,b3,b4]at HT HSC
   case false.false.false.false=>
    obtain⟨kc,tc,hkc,htc,_,hkcl⟩:=iW ap.name Lv c (by
     rcases HCO.o with e|e
     ·rw[HSC.o]at e;cases e
     ·exact e)
    have HT2:=aa (show q=(decide (vsh=4)&&fH Lv rows c vs)from HT.o);have hf:=fun W (hW:Lt w0 W)=>wN (.slice aL rows.length cL) vs (rows.map cy.id) W ((hE.l.below hW).names) (by simp;have:=hE.ll;omega);have hll:=hE.ll;have hdl:=hE.dl;clear HT HSC HCO;by_cases hneg:ah (rows.map cy.id) vs<0
    ·have HR:=aa (show fH Lv rows c vs=true from by unfold fH;rw[K9 hneg])
     generalize ah (rows.map cy.id) vs=fi at*;go_enter func48,ntmps48;go_wp2_with fail;refine(hi _).mono ?_;rintro _ w' ⟨rfl,hw'⟩;have hw':=hw'.symm;subst hw';go_wp2_with fail;refine(hc _).mono ?_;rintro _ w' ⟨rfl,hw'⟩;have hw':=hw'.symm;subst hw';go_wp2_with fail;refine(hf _ (bA (bA hB _) _)).mono ?_;rintro _ w' ⟨rfl,hw'⟩;have hw':=hw'.symm;subst hw';go_wp2_with fail;all_goals
      go_ret;refine⟨am (by rw[HT2.o,HR.o,Bool.and_true,Bool.eq_iff_iff];simp;omega),?_⟩;repeat' with_reducible first|exact KL _ _|refine bA ?_ _
    ·obtain⟨fi,r,hfi,hr,_,hfil⟩:=iW cy.id rows vs hneg
     obtain⟨d,hd⟩:∃d,Lv[r.d]?=some d:=⟨_,KM (hE.rd r (KN hr))⟩;have HR:=aa (show fH Lv rows c vs=(!(d.name.toList==[81,117,101,114,121])&&l9 d tc r.d kc)from by
      unfold fH;rw[K8 hneg,hfi,Lk,hr,hkc,Lk];simp only[hd,htc];rw[<-bY,Lib.toList_data kC];rfl)
     have HK:=aa (⟨hkc,htc,hfi,hr,hd⟩:ah (Lv.map ap.name) c=kc/\Lv[kc]?=some tc/\ah (rows.map cy.id) vs=fi/\rows[fi]?=some r/\Lv[r.d]?=some d);rw[hfi]at hf;clear hneg hfi hkc hd htc hr;by_cases h4:vsh=4
     rotate_left
     ·have h4':((vsh:Int)!=4)=true:=by simp;omega
      have HF:=aa (show q=false from by rw[HT2.o,KT h4];rfl);go_enter func48,ntmps48;go_wp2_with fail;refine(hi _).mono ?_;rintro _ w' ⟨rfl,hw'⟩;have hw':=hw'.symm;subst hw';go_wp2_with fail;refine(hc _).mono ?_;rintro _ w' ⟨rfl,hw'⟩;have hw':=hw'.symm;subst hw';go_wp2_with fail;refine(hf _ (bA (bA hB _) _)).mono ?_;rintro _ w' ⟨rfl,hw'⟩;have hw':=hw'.symm;subst hw';go_wp2_with fail;go_ret;refine⟨am (by rw[HF.o];simp;omega),?_⟩;repeat' with_reducible first|exact KL _ _|refine bA ?_ _
     ·subst h4
      have HG:=aa (show q=(!(d.name.toList==[81,117,101,114,121])&&l9 d tc r.d kc)from by rw[HT2.o,HR.o];rfl);rw[HG.o];exact Kz hE hB c tt vs vn vla vln vlc kc fi r d tc hi hc b1 b2 b3 b4 HK.o.1 HK.o.2.1 HK.o.2.2.1 HK.o.2.2.2.1 HK.o.2.2.2.2
   all_goals
    simp only[Lj,if_false,if_true,Bool.or_false,Bool.or_true,Bool.or_self]at HT;go_enter func48,ntmps48;go_wp2_with fail;refine(hi _).mono ?_;rintro _ w' ⟨rfl,hw'⟩;have hw':=hw'.symm;subst hw';go_wp2_with fail;refine(hc _).mono ?_;rintro _ w' ⟨rfl,hw'⟩;have hw':=hw'.symm;subst hw';go_wp2_with fail;go_ret;refine⟨am (by rw[HT.o,Bool.eq_iff_iff];simp;omega),?_⟩;repeat' with_reducible first|exact KL _ _|refine bA ?_ _
 |list t st ih=>
  intro hwf hsz hcore W v r k hB hv hsm;obtain⟨sh,n,s,l⟩:=r;obtain⟨vsh,vn,vs,vla,vln,vlc⟩:=v;obtain⟨e1,e2,e3,e4⟩:=hv.parts;simp only at e1 e2 e3 e4;by_cases h06:sh=0\/sh=6
  ·rw[E9 _ _ _ _ _ _ h06]
   have h1:((vsh:Int)==0||(vsh:Int)==6)=true:=by rw[e1];simp;omega
   simp only[bw];clear ih e1 e2 e3 e4 hv;cases h2:((vsh:Int)==0)<;>rw[h2]at h1;all_goals
    go_enter func48,ntmps48;go_wp2_with fail;go_ret;refine⟨rfl,?_⟩;repeat' with_reducible first|exact KL _ _|refine bA ?_ _
  ·have h0:((vsh:Int)==0)=false:=by rw[e1];simp;omega
   have h6:((vsh:Int)==6)=false:=by rw[e1];simp;omega
   have hwt:fZ t:=hwf;have htz:(ci t).size<=(ci (.list t st)).size:=by rw[qD,qD];simp[dE];omega
   have hi:=fun W=>yI (ci (.list t st)) W (xG _ hwf) (fun _=>by
    rw[qD,BM _ hwf];simp only[dE];exact⟨by simp;omega,fun e=>by subst e;simp⟩) hsz
   rw[GO t st hwf]at hi;have hne:(ci t).toList.isEmpty=false:=by
    rw[kL,KT];intro e;have:=xG t hwt;rw[e]at this;exact absurd this (by decide)
   obtain⟨hll,Mo⟩:=hsm.one;have HQ:=aa (show fk (fH Lv rows) (.list t st) (.mk sh n s l)=(l.all (fk (fH Lv rows) t)&&decide (sh=5))from by rw[fk,K8 h06]);have HIH:=aa (ih hwt (by omega) hcore);have HV:=aa hv;have HS:=aa (And.intro e1 e4);have N7:=aa Mo;generalize fk (fH Lv rows) (.list t st) (.mk sh n s l)=q at*;generalize ci (.list t st)=tt at*;simp only[bw];rw[e4];clear ih e1 e2 e3 e4 hv Mo hsm h06 htz;go_enter func48,ntmps48;go_wp2_with fail;refine(hi _).mono ?_;clear hi;rintro _ w' ⟨rfl,hw'⟩;have hw':=hw'.symm;subst hw';go_wp2_with fail;obtain⟨X1,X2,X3⟩:=uw W (.cells #[.slice aR nR cR,.slice aD Lv.length cD] 62) (.cells #[.int .i64 vsh,.int .i64 vn,.string vs,.slice vla l.length vlc] 119);generalize (W.alloc (.cells #[.slice aR nR cR,.slice aD Lv.length cD] 62)).alloc (.cells #[.int .i64 vsh,.int .i64 vn,.string vs,.slice vla l.length vlc] 119)=W2 at*;have h12:=ag X2;go_loopg [10,11] l.length (fun m v10 v11 wr=>∃i:Nat,v10=.int .i64 i/\i<=l.length/\l.length-i<=m/\Lt W2 wr/\l.all (fk (fH Lv rows) t)=(l.drop i).all (fk (fH Lv rows) t))
   case atStart=>exact⟨0,rfl,KU _,KK _,KL _ _,rfl⟩
   case round=>
    obtain⟨i,rfl,hil,hm,hb,LZ⟩:=hrel;have hX:=(hb.block _ (ag X1)).trans X1;have hVb:=(hb.block _ h12).trans X2;have cX:=ae hX;have cV:=ae hVb;have HB:=aa (bT X3 hb);have HBW:=aa hb;have Mb:=aa LZ;have hlX:=ag hX;have hlV:=ag hVb;clear hX hVb LZ hb;by_cases hlt:i<l.length
    ·have hx:=KM hlt
     generalize l[i]=r at hx;have hva:=HV.o.frame (w':=wr) (B':=fun g=>g<wr.heap.size) (fun g hg o=>HB.o.cell (p:=⟨g,o,none⟩) hg) (fun g hg=>KV hg HB.o.size);obtain⟨k',g,f,ha,hg,c0,c1,c2,c3,hvf⟩:=hva.elem hx;simp only at ha;subst ha;have HC:=aa (fun W' (hW':Lt wr W')=>HIH.o W' f r k' (bT (bT hB HB.o) hW') (hvf.frame (fun g hg o=>hW'.cell (p:=⟨g,o,none⟩) hg) (fun g hg=>KV hg hW'.size)) (N7.o r (KN hx)));unfold bw at HC;have HD:=aa (show l.all (fk (fH Lv rows) t)=(fk (fH Lv rows) t r&&(l.drop (i+1)).all (fk (fH Lv rows) t))from by rw[Mb.o,ow hx];rfl);generalize fk (fH Lv rows) t r=qr at*;clear hva hvf HIH;go_upto_region 8 with fail;go_cut [11] (fun v11 wc=>v11=.bool qr/\Lt wr wc)
     case first=>
      go_region_with (go_at_call 48;refine(HC.o _ ?_).mono ?_;(first|exact(KL _ _).drew|exact KL _ _);rintro _ w' ⟨rfl,hb'⟩);all_goals(try go_wp2_with fail)
      all_goals(go_meet;exact⟨rfl,(KL _ _).drew.trans hb'⟩)
     case rest=>
      obtain⟨rfl,hbc⟩:=hcut;clear c0 c1 c2 c3 cX cV HC;cases qr
      ·go_wp2_with fail
       go_ret;exact⟨am (by rw[HQ.o,HD.o];rfl),bT HB.o hbc⟩
      ·go_wp2_with fail
       go_roundg (l.length-(i+1))
       case measure=>omega
       case rel=>exact⟨i+1,by go_num,by omega,KK _,bT HBW.o hbc,by rw[HD.o];rfl⟩
    ·have hie:i=l.length:=by omega
     subst hie;have HT:=aa (show q=decide (sh=5)from by rw[HQ.o,Mb.o,List.drop_length];rfl);cases h5:((vsh:Int)==5);all_goals
      go_wp2_with fail;go_ret;exact⟨am (by rw[HT.o,<-HS.o.1];simp at h5;simp;omega),HB.o⟩
noncomputable def tyOf (t:Ls):dh:=open Classical in if h:∃ty,fZ ty/\ci ty=t then Classical.choose h else .one ⟨#[]⟩ false
theorem Bp(ty:dh)(h:fZ ty):tyOf (ci ty)=ty:=by
 have hx:∃u,fZ u/\ci u=ci ty:=⟨ty,h,rfl⟩;unfold tyOf;rw[dif_pos hx];have hc:=Classical.choose_spec hx;exact uG _ _ hc.1 h (by rw[<-kW,<-kW,hc.2])
def lz(Lv:List ap):List cy->List bo->Bool
 |_,[]=>true
 |acc,y::ys=>(il Lv y&&decide (ah (acc.map cy.id) y.2.1<0))&&lz Lv (acc++[bO Lv y]) ys
noncomputable def MZ (Lv:List ap) (L:List cy) (d:ap) (p:Ls×RV):Bool:=match d.fields[(ah (d.fields.map bj.name) p.1).toNat]? with
 |some f=>fk (fH Lv L) (tyOf f.ty) p.2
 |none=>false
noncomputable def fitRow (Lv:List ap) (L:List cy) (r:cy):Bool:=match Lv[r.d]? with
 |some d=>(r.names.zip r.vals).all (MZ Lv L d)
 |none=>false
noncomputable def storeOk (Lv:List ap) (ys:List bo):Bool:=decide (ys.length<=200)&&(lz Lv [] ys&&(ys.map (bO Lv)).all (fitRow Lv (ys.map (bO Lv))))
abbrev LX:=cy×Value×Value×List FV
def pd(x:LX):List Value:=[.int .i64 x.1.d,.string x.1.id,x.2.1,x.2.2.1]
structure mS(w:World)(B0:Nat)(vL:Value)(xs:List LX):Prop where
 own:w.ownsRow B0 113 4 vL xs.length (xs.flatMap pd)
 sub:∀x∈xs,kN w (fun g=>B0<=g/\g<w.heap.size/\vL.ownBlock≠some g) x.2.1 x.2.2.1 x.1 x.2.2.2
theorem mS.far{w w':World}{B0:Nat}{vL:Value}{xs:List LX}(h:mS w B0 vL xs)(hf:∀k,B0<=k->k<w.heap.size->w'.heap[k]?=w.heap[k]?)(hs:w.heap.size<=w'.heap.size):mS w' B0 vL xs:=
 ⟨kQ h.own (fun k hk=>hf k (i7 h.own k hk) (ep h.own k hk)),fun x hx=>(h.sub x hx).frame (fun g hg o=>World.cell?_of_block (a:=⟨g,o,none⟩) (hf g hg.1 hg.2.1)) (fun _ hg=>⟨hg.1,KV hg.2.1 hs,hg.2.2⟩)⟩
theorem mS.push{w w':World}{B0 g' LM:Nat}{vL:Value}{xs:List LX}{x:LX}(h:mS w B0 vL xs)(hx:kN w (fun g=>B0<=g/\g<w.heap.size/\vL.ownBlock≠some g) x.2.1 x.2.2.1 x.1 x.2.2.2)
 (LJ:w'.ownsRow B0 113 4 (.slice (some ⟨g',0,none⟩) (xs.length+1) LM) (xs.length+1) (xs.flatMap pd++pd x)) (Nf:∀k,B0<=k->k<w.heap.size->vL.ownBlock≠some k->w'.heap[k]?=w.heap[k]?) (hwh:vL.ownBlock=some g'\/w.heap.size<=g') (hs:w.heap.size<=w'.heap.size):
 mS w' B0 (.slice (some ⟨g',0,none⟩) (xs.length+1) LM) (xs++[x]):=by
 have hfr:∀{z:LX},kN w (fun g=>B0<=g/\g<w.heap.size/\vL.ownBlock≠some g) z.2.1 z.2.2.1 z.1 z.2.2.2->kN w' (fun g=>B0<=g/\g<w'.heap.size/\(Value.slice (some ⟨g',0,none⟩) (xs.length+1) LM).ownBlock≠some g) z.2.1 z.2.2.1 z.1 z.2.2.2:=fun hh=>
  hh.frame (fun g hg o=>World.cell?_of_block (a:=⟨g,o,none⟩) (Nf g hg.1 hg.2.1 hg.2.2)) (fun g hg=>⟨hg.1,KV hg.2.1 hs,fun e=>by
   have e':g'=g:=KY e;rcases hwh with q|q
   ·exact hg.2.2 (by rw[<-e'];exact q)
   ·have:=hg.2.1;omega⟩)
 refine⟨by rw[Lb,List.flatMap_append];simpa using LJ,fun z hz=>?_⟩;rcases List.mem_append.1 hz with q|q
 ·exact hfr (h.sub z q)
 ·simp at q;subst q;exact hfr hx
theorem CX:∀(xs:List LX) (a:Nat) (c:LX) (j:Nat),xs[a]?=some c->j<4->(xs.flatMap pd)[a*4+j]?=(pd c)[j]?
 |[],a,t,j,h,_=>by simp at h
 |x::ts,0,t,j,h,hj=>by
  simp at h;subst h;rw[List.flatMap_cons,Lf (by show _<4;omega)];simp
 |x::ts,a+1,t,j,h,hj=>by
  rw[List.flatMap_cons,Lg (by show 4<=_;omega)];rw[show(a+1)*4+j-(pd x).length=a*4+j by show(a+1)*4+j-4=_;omega];exact CX ts a t j (by simpa using h) hj
theorem mS.rows{w:World}{B0:Nat}{vL:Value}{xs:List LX}(h:mS w B0 vL xs):lN w vL (xs.map (·.1)):=by
 rcases h.own.2 with⟨hv,h0⟩|⟨g,cap,cur,hv,hg,hh,hr⟩
 ·have:xs=[]:=KZ h0
  subst this;exact⟨none,0,hv,KK _,Or.inl rfl⟩
 ·subst hv
  refine⟨some ⟨g,0,none⟩,cap,by rw[Ll],by rw[Ll];exact hr.1,Or.inr ⟨g,rfl,fun j r hj=>?_⟩⟩;rw[La]at hj;cases hx:xs[j]? with
  |none=>rw[hx]at hj;cases hj
  |some x=>
   rw[hx]at hj;cases hj;have hjl:j<xs.length:=(KO.1 hx).1;have q:∀i,i<4->w.cell? ⟨g,j*4+i,none⟩=(pd x)[i]?:=fun i hi=>by
    rw[h.own.cellAt _ (by omega)];exact CX xs j x i hx hi
   exact⟨q 0 (by omega),q 1 (by omega),x.2.1,x.2.2.1,x.2.2.2,q 2 (by omega),q 3 (by omega),(h.sub x (KN hx)).at (fun g hg=>hg.2.1)⟩
theorem xC(Lv:List ap):∀(ys:List bo) (acc:List cy),lz Lv acc ys=true->∀y∈ys,il Lv y=true
 |[],_,_,y,hy=>by simp at hy
 |z::ys,acc,h,y,hy=>by
  rw[lz,Li,Li]at h;rcases List.mem_cons.1 hy with e|e
  ·rw[e];exact h.1.1
  ·exact xC Lv ys _ h.2 y e
theorem wR{Lv:List ap}{y:bo}(h:il Lv y=true):(bO Lv y).d<Lv.length:=by
 unfold il at h;split at h
 ·rename_i d hd;exact(KO.1 hd).1
 ·cases h
theorem vz(LS:List bj):∀(cs:List dd) (seen:List Ls),ly LS seen cs=true->∀c∈cs,¬ah (LS.map bj.name) c.1<0
 |[],_,_,c,hc=>by simp at hc
 |z::cs,seen,h,c,hc=>by
  rw[ly,Li]at h;rcases List.mem_cons.1 hc with e|e
  ·rw[e]
   have h1:=h.1;unfold ql at h1;simp only[Li,Lc]at h1;have:=h1.2.2.1;omega
  ·exact vz LS cs _ h.2 c e
theorem Jy(x:Ls):ln (av x)<=801:=by
 cases h:av x with
 |none=>simp[ln]
 |some ts=>have:=(oc x ts h).2;simp[ln];omega
theorem info113:(prog.info? 113).map (fun i=>(i.zero,i.size,i.bytes))=some (some (.agg #[.int .i64 0,.string ⟨#[]⟩,.slice none 0 0,.slice none 0 0]),4,72):=by kernel_rfl
theorem I7(aR:Option Addr)(nR cR:Nat)(aD:Option Addr)(cD:Nat)(Lv:List ap)(aY:Option Addr)(cY:Nat)(ys:List bo)(w:World)(hD:i5 w (.slice aD Lv.length cD) Lv)(hY:eM w (.slice aY ys.length cY) ys)
 (hdl:Lv.length<=801) (hfl:∀d∈Lv,d.fields.length<=801/\d.Ly.length<=801/\d.sort<=2) (hty:∀d∈Lv,∀f∈d.fields,∃ty,fZ ty/\ci ty=f.ty/\f.ty.size<=100000/\(co (bN ty)=true\/¬ah (Lv.map ap.name) (bN ty)<0))
 (hyl:ys.length<=1000000) (hcl:∀y∈ys,y.2.2.length<=1000000/\∀c∈y.2.2,c.2.size<=maxLen):
 Calls prog 27 #[.agg #[.slice aR nR cR,.slice aD Lv.length cD],.slice aY ys.length cY] w fun e w'=>∃vL,e=.returned (.tuple #[vL,.bool (storeOk Lv ys)])/\(storeOk Lv ys=true->lN w' vL (ys.map (bO Lv)))/\(∃a n c,vL=.slice a n c)/\Lt w w':=by
 have HQ:=aa (storeOk.eq_1 Lv ys);have HTY:=aa hty;clear hty;obtain⟨iRw,hiRw,zR0,zR1,zR2⟩:=info_parts info113;generalize storeOk Lv ys=q at*;have HD:=aa hD;have HY:=aa hY;by_cases h200:200<ys.length
 ·have HF:=aa (show q=false from by rw[HQ.o,KT (by omega)];rfl)
  clear HQ hD hY;go_enter func27,ntmps27;go_wp2_with fail;exact bodyPost_ret (v:=.tuple #[.slice none 0 0,.bool false]) (by simp[results,results27,go_sem]) rfl ⟨.slice none 0 0,by rw[HF.o],fun e=>(by rw[HF.o]at e;cases e),⟨_,_,_,rfl⟩,bA (KL _ _) _⟩
 ·have HQ2:=aa (show q=(lz Lv [] ys&&(ys.map (bO Lv)).all (fitRow Lv (ys.map (bO Lv))))from by rw[HQ.o,Le (by omega)];rfl)
  clear HQ hD hY;go_enter func27,ntmps27;go_wp2_with fail;have X1:=mX w (.cells #[.slice aR nR cR,.slice aD Lv.length cD] 62);have X3:=bA (KL w.heap.size w) (.cells #[.slice aR nR cR,.slice aD Lv.length cD] 62);generalize w.alloc (.cells #[.slice aR nR cR,.slice aD Lv.length cD] 62)=W2 at*;have hlX:=ag X1;have HX1:=aa X1;have HX3:=aa X3;clear X1 X3;go_loopg [6,7,8,9,10] ys.length (fun m v6 v7 v8 v9 v10 wr=>∃(i:Nat) (xs:List LX),v7=.int .i64 i/\i<=ys.length/\ys.length-i<=m/\xs.length=i/\mS wr W2.heap.size v6 xs/\Lt W2 wr/\xs.map (·.1)=(ys.take i).map (bO Lv)/\lz Lv [] ys=lz Lv (xs.map (·.1)) (ys.drop i))
  case atStart=>exact⟨0,[],rfl,KU _,KK _,rfl,⟨K7 _ _ _ _,fun x hx=>by simp at hx⟩,KL _ _,rfl,rfl⟩
  case round=>
   obtain⟨i,xs,rfl,hil,hm,hxi,hL,hb,hxs,hg⟩:=hrel;obtain⟨aL,cL,hvL⟩:=bc hL.own;subst hvL;have hX:=(hb.block _ hlX).trans HX1.o;have cX:=ae hX;have hlX2:=ag hX;have HB:=aa hb;have HL:=aa hL;have HXS:=aa hxs;have HGS:=aa hg;have HXI:=aa hxi;have hxl:xs.length<=200:=by omega
   clear hL hb hxs hg hX hxi;by_cases hlt:i<ys.length
   ·have hx:=KM hlt
    generalize ys[i]=y at hx;obtain⟨gY,oY,aC,cC,e,y0,y1,y2,hyc⟩:=(HY.o.below (bT HX3.o HB.o)).at hx;subst e;have hgY:gY<wr.heap.size:=KQ wr _ y0;obtain⟨hc1,hc2⟩:=hcl y (KN hx);have HC:=aa (fun W (hW:Lt wr W)=>E7 aR nR cR aD cD Lv aC cC y W (HD.o.below (bT (bT HX3.o HB.o) hW)) (hyc.below hW) hdl (fun d hd=>(hfl d hd).1) hc1 hc2);have HFI:=aa (fun W (hW:Lt wr W)=>wN (.slice aL xs.length cL) y.2.1 ((xs.map (·.1)).map cy.id) W (by have:=((HL.o.rows).below hW).names;exact this) (by simp;omega));have HGY:=aa (show lz Lv [] ys=((il Lv y&&decide (ah ((xs.map (·.1)).map cy.id) y.2.1<0))&&lz Lv (xs.map (·.1)++[bO Lv y]) (ys.drop (i+1)))from by rw[HGS.o,ow hx];rfl);clear hyc;go_upto_region 7 with fail;go_cut [8,9] (fun v8 v9 wc=>∃(aN:Option Addr) (cN:Nat) (aV:Option Addr) (cV N:Nat) (r:cy) (fs:List FV),v8=.pointer (some ⟨N,0,none⟩)/\v9=.bool (il Lv y)/\wc.heap[N]?=some (.cells #[.int .i64 r.d,.string r.id,.slice aN r.names.length cN,.slice aV fs.length cV] 113 (0,0))/\Lt wr wc/\kN wc (fun g=>wr.heap.size<=g/\g<wc.heap.size) (.slice aN r.names.length cN) (.slice aV fs.length cV) r fs/\(il Lv y=true->r=bO Lv y)/\wr.heap.size<=N)
    case first=>
     go_region_with (go_at_call 46;refine(HC.o _ ?_).mono ?_;(first|exact(KL _ _).drew|exact KL _ _|exact bA (KL _ _) _|exact(bA (KL _ _) _).drew|exact bA (KL _ _).drew _);rintro _ w1 ⟨vN,vV,r,fs,rfl,Ma,hro,b1⟩;obtain⟨aN,cN,hvN,_⟩:=id Ma.n;subst hvN;obtain⟨aV,cV,hvV,_⟩:=id Ma.v;subst hvV;(try(have hz:w1.heap[wr.heap.size]?=some (.cells #[.int .i64 0,.string ⟨#[]⟩,.slice none 0 0,.slice none 0 0] 113):=(by first|exact(b1.block _ (by simp)).trans (KS wr _));have hzc:=ae hz;have hzf:=ar hz;have hzl:=ag hz)));all_goals(try go_wp2_with fail)
     all_goals(
      go_meet;first
      |(have bW:Lt wr w1:=(by first|exact b1|exact(KL _ _).drew.trans b1)
        exact⟨aN,cN,aV,cV,w1.heap.size,r,fs,rfl,rfl,KS w1 _,bA bW _,Ma.frame (fun g hg o=>(bA (KL w1.heap.size w1) _).cell (p:=⟨g,o,none⟩) hg.2) (fun g hg=>⟨hg.1,by have:=hg.2;simp;omega⟩),hro,bW.size⟩)
      |(have bW:Lt wr w1:=(by refine bT ?_ b1;first|exact bA (KL _ _) _|exact(bA (KL _ _) _).drew|exact bA (KL _ _).drew _)
        refine⟨aN,cN,aV,cV,wr.heap.size,r,fs,rfl,rfl,rD hz _ _ _ _,?_,Ma.frame (fun g hg o=>World.cell?_of_block (a:=⟨g,o,none⟩) (fD _ _ g (by have:=hg.1;simp at this;omega) _ _ _ _)) (fun g hg=>⟨by have:=hg.1;simp at this;omega,by have:=hg.2;simp[World.setCell];omega⟩),hro,KK _⟩;repeat' with_reducible first|exact bW|refine bS ?_ _ (KK _) _))
    case rest=>
     obtain⟨aN,cN,aV,cV,N,r,fs,rfl,rfl,hr,hbc,Ma,hro,hN⟩:=hcut;have hr0:=ae hr;have hfN:=ar hr;have hlN:=ag hr;have y1:=ao hbc y1;have hgYc:gY<wc.heap.size:=KV hgY hbc.size;have HBC:=aa hbc;have HR:=aa hr;have No:=aa Ma;have HRO:=aa hro;have HF2:=aa (HFI.o wc HBC.o);have hlr:(xs.map (·.1)).length=xs.length:=by simp
     clear HC HFI hbc hr Ma hro cX y0 y2;generalize ah ((xs.map (·.1)).map cy.id) y.2.1=fi at*;have RET:=aa (fun(X:World) (hX:Lt wc X) (hq:lz Lv [] ys=false)=>show∃vL,Ending.returned (Value.tuple #[.slice none 0 0,.bool false])=.returned (.tuple #[vL,.bool q])/\(q=true->lN X vL (ys.map (bO Lv)))/\(∃a n c,vL=.slice a n c)/\Lt w X from
      have hq':q=false:=by rw[HQ2.o,hq];rfl
      ⟨_,by rw[hq'],fun e=>(by rw[hq']at e;cases e),⟨_,_,_,rfl⟩,bT (bT (bT HX3.o HB.o) HBC.o) hX⟩)
     cases hok:il Lv y
     ·rw[hok]at HGY
      go_wp2_with fail;refine HF2.o.mono ?_;rintro _ w' ⟨rfl,hw'⟩;have hw':=hw'.symm;subst hw';go_wp2_with fail;exact bodyPost_ret (v:=.tuple #[.slice none 0 0,.bool false]) (by simp[results,results27,go_sem]) rfl (RET.o _ (KL _ _) (by rw[HGY.o];rfl))
     ·rw[hok]at HGY HRO
      by_cases hfi:fi<0
      rotate_left
      ·have hge:decide ((0:Int)<=fi)=true:=by simp;omega
       go_wp2_with fail;refine HF2.o.mono ?_;rintro _ w' ⟨rfl,hw'⟩;have hw':=hw'.symm;subst hw';go_wp2_with fail;exact bodyPost_ret (v:=.tuple #[.slice none 0 0,.bool false]) (by simp[results,results27,go_sem]) rfl (RET.o _ (KL _ _) (by rw[HGY.o,KT (by omega)];rfl))
      ·have hge:decide ((0:Int)<=fi)=false:=by simp;omega
       go_wp2_with fail;refine HF2.o.mono ?_;rintro _ w' ⟨rfl,hw'⟩;have hw':=hw'.symm;subst hw';have HL2:=aa (HL.o.far (w':=wc) (fun k h1 h2=>HBC.o.block k h2) HBC.o.size);have M8:=HBC.o.size;have hszw:=HB.o.size;go_wp2_with (at_builtin;refine wpList_append_lies _ rfl _ _ 76 rfl W2.heap.size 113 iRw _ 4 72 underlying76 hiRw zR0 zR1 zR2 rfl (by decide) _ _ _ rfl (HL2.o.own.alloc _) ⟨wc.heap.size,0,none⟩ 1 1 [.int .i64 r.d,.string r.id,.slice aN r.names.length cN,.slice aV fs.length cV] rfl rfl (de _ _ _ _ (by simp)) (uD rfl rfl rfl rfl) (by decide) (by unfold maxLen;omega) (by omega) (by simp;omega) (wc.heap.size+1) (by simp) ?_;intro g' LM x3 hown' hgrow hwh hgs;have MS:=aa hown';have LT:=aa hgrow;have HWH:=aa hwh;clear hown' hgrow hwh);have hgz:=LT.o.size;simp at hgz;have MX:=aa (show∀j,j<wc.heap.size->(Value.slice aL xs.length cL).ownBlock≠some j->x3.heap[j]?=wc.heap[j]? from fun j h1 h2=>(LT.o.block j (by simp;omega) (fun e=>h2 e.symm)).trans (bp _ _ _ h1));have hlt':∀j,(Value.slice aL xs.length cL).ownBlock=some j->j<wr.heap.size:=fun j hj=>ep HL.o.own j hj;have HRW:=aa (HRO.o (by simp));go_roundg (ys.length-(i+1))
       case measure=>omega
       case rel=>
        refine⟨i+1,xs++[(r,.slice aN r.names.length cN,.slice aV fs.length cV,fs)],by go_num,by omega,KK _,by simp[HXI.o],?_,?_,?_,?_⟩
        ·exact HL2.o.push (x:=(r,.slice aN r.names.length cN,.slice aV fs.length cV,fs)) (No.o.frame (fun _ _ _=>rfl) (fun g hg=>⟨by omega,hg.2,fun e=>by have:=hlt' g e;omega⟩)) MS.o (fun k _ h2 h3=>MX.o k h2 h3) (HWH.o.imp (fun e=>e) (fun e=>by omega)) (by omega)
        ·have hb:=bT HB.o HBC.o
         exact⟨LT.o.os.trans hb.os,LT.o.tape.trans hb.tape,LT.o.output.trans hb.output,by have:=hb.size;omega,fun j hj=>(MX.o j (by omega) (jC HL.o.own (by omega))).trans (hb.block j hj)⟩
        ·rw[Ld,hx,Lr,HXS.o];simp[HRW.o]
        ·rw[HGY.o,Le hfi];simp[HRW.o]
   ·have hie:i=ys.length:=by omega
    subst hie;have HG1:=aa (show q=(ys.map (bO Lv)).all (fitRow Lv (ys.map (bO Lv)))from by rw[HQ2.o,HGS.o,List.drop_length];rfl);have HX2:=aa (show xs.map (·.1)=ys.map (bO Lv)from by rw[HXS.o,List.take_length]);have Mb:=aa (xC Lv ys [] (by rw[HGS.o,List.drop_length];rfl));have HRD:=aa (show∀r∈xs.map (·.1),∃y∈ys,r=bO Lv y/\il Lv y=true from fun r hr=>by
     rw[HX2.o]at hr;obtain⟨y,hy,rfl⟩:=List.mem_map.1 hr;exact⟨y,hy,rfl,Mb.o y hy⟩)
    have HE:=aa (show uX wr aD cD aL cL Lv (xs.map (·.1))from⟨HD.o.below (bT HX3.o HB.o),by rw[Ll];exact HL.o.rows,hdl,by simp;omega,fun d hd=>⟨(hfl d hd).2.1,(hfl d hd).2.2⟩,fun r hr=>by
     obtain⟨y,_,rfl,hy⟩:=HRD.o r hr;exact wR hy⟩)
    obtain⟨wo,rfl⟩:∃wo:World,wo=wr:=⟨_,rfl⟩;clear HGS HQ2 HXS hm cX;go_wp2_with fail;go_loopg [11,12,13,14] xs.length (fun m v11 v12 v13 v14 wr=>∃i:Nat,v11=.int .i64 i/\i<=xs.length/\xs.length-i<=m/\Lt wo wr/\q=((xs.map (·.1)).drop i).all (fitRow Lv (xs.map (·.1))))
    case atStart=>exact⟨0,rfl,KU _,KK _,KL _ _,by rw[HG1.o,HX2.o];rfl⟩
    case round=>
     obtain⟨i,rfl,hix,hm,hb,hq⟩:=hrel;have HBO:=aa hb;have HQO:=aa hq;clear hb hq;by_cases Ml:i<xs.length
     ·obtain⟨r,hr⟩:∃r,(xs.map (·.1))[i]?=some r:=⟨_,KM (by simpa using Ml)⟩
      have hrm:=KN hr;obtain⟨d,hd⟩:∃d,Lv[r.d]?=some d:=⟨_,KM (HE.o.rd r hrm)⟩;have hdm:=KN hd;have hrd:=HE.o.rd r hrm;obtain⟨gL,aN,cN,aV,cV,fs,e,_,_,_,_,_⟩:=HE.o.l.at hr;subst e;have HLR:=aa (fun W (hW:Lt wo W)=>(HE.o.l.below hW).at hr);have HDD:=aa (fun W (hW:Lt wo W)=>(HE.o.d.below hW).at hd);have HRR:=aa (And.intro hr hd);have HZ:=aa (show q=((r.names.zip r.vals).all (MZ Lv (xs.map (·.1)) d)&&((xs.map (·.1)).drop (i+1)).all (fitRow Lv (xs.map (·.1))))from by
       rw[HQO.o,ow hr];show(fitRow _ _ _&&_)=_;unfold fitRow;simp only[hd])
      have hnl:r.names.length<=1000000:=by
       obtain⟨y,hy,rfl,_⟩:=HRD.o r hrm;simpa [bO]using(hcl y hy).1
      have hve:r.vals.length=r.names.length:=by
       obtain⟨y,hy,rfl,_⟩:=HRD.o r hrm;simp[bO]
      obtain⟨qz,HQZ⟩:∃qz,Hi ((r.names.zip r.vals).all (MZ Lv (xs.map (·.1)) d)=qz):=⟨_,aa rfl⟩;rw[HQZ.o]at HZ;have HVE:=aa hve;obtain⟨wp,rfl⟩:∃wp:World,wp=wr:=⟨_,rfl⟩;obtain⟨gL',aN',cN',aV',cV',fs',e,l0,l1,l2,l3,_⟩:=HLR.o wp HBO.o;cases e;have hgL:gL<wp.heap.size:=KQ wp _ l0;clear hve hr hd;go_wp2_with fail;go_loopg [12,13,14] r.names.length (fun m v12 v13 v14 wr=>∃j:Nat,v12=.int .i64 j/\j<=r.names.length/\r.names.length-j<=m/\Lt wo wr/\qz=((r.names.zip r.vals).drop j).all (MZ Lv (xs.map (·.1)) d))
      case atStart=>exact⟨0,rfl,KU _,KK _,HBO.o,HQZ.o.symm⟩
      case round=>
       clear l0 l1 l2 l3 hgL;obtain⟨j,rfl,hjn,hm2,hb,hq⟩:=hrel;have HBJ:=aa hb;have HQJ:=aa hq;obtain⟨gL',aN',cN',aV',cV',fs',e,l0,l1,l2,l3,Ma⟩:=HLR.o wr hb;cases e;have hgL:gL<wr.heap.size:=KQ wr _ l0;clear hb hq;by_cases hlt3:j<r.names.length
       ·obtain⟨n,hn⟩:∃n,r.names[j]?=some n:=⟨_,KM hlt3⟩
        obtain⟨rv,hrv⟩:∃rv,r.vals[j]?=some rv:=⟨_,KM (by rw[HVE.o];exact hlt3)⟩;have hfv:fs'.length=r.names.length:=by rw[Ma.l.1,HVE.o]
        obtain⟨f,hf⟩:∃f,fs'[j]?=some f:=⟨_,KM (by rw[hfv];exact hlt3)⟩;obtain⟨a1,k1,e1,_,hN⟩:=Ma.n;cases e1;obtain⟨gN,oN,e,hN2⟩:=hN.resolve_left (fun e=>by rw[e]at hlt3;simp at hlt3);subst e;have n0:=hN2 j n hn;obtain⟨a2,k2,e2,_,hV⟩:=Ma.v;cases e2;obtain⟨gV,oV,e,hV2⟩:=hV.resolve_left (fun e=>by rw[e]at hf;simp at hf);subst e;obtain⟨v0,v1,v2,v3⟩:=hV2 j f hf;have hva:=Ma.l.2 j f rv hf hrv;rw[hfv]at l3;have hgN:gN<wr.heap.size:=KQ wr _ n0;have hgV:gV<wr.heap.size:=KQ wr _ v0;obtain⟨gD,aF,cF,aA,cA,aT,cT,e,d0,d1,d2,d3,d4,d5,hda⟩:=HDD.o wr HBJ.o;subst e;have hgD:gD<wr.heap.size:=KQ wr _ d0;have cX:=ae (((bT HB.o HBJ.o).block _ hlX).trans HX1.o);have hlX3:w.heap.size<wr.heap.size:=KV hlX (bT HB.o HBJ.o).size;obtain⟨y,hy,hyr,hyo⟩:=HRD.o r hrm;have Og:¬ah (d.fields.map bj.name) n<0:=by
         have hd:=HRR.o.2;subst hyr;unfold il at hyo;rw[show Lv[(ah (Lv.map ap.name) y.1).toNat]?=some d from hd]at hyo;simp only[Li]at hyo;have hm:=KN hn;obtain⟨c,hc,rfl⟩:=List.mem_map.1 (show n∈y.2.2.map (·.1)from hm);exact vz d.fields y.2.2 [] hyo.2.2.2 c hc
        obtain⟨fi,fld,hfi,NA,_,hfil⟩:=iW bj.name d.fields n Og;obtain⟨ty,hwf,hty1,hty2,hty3⟩:=HTY.o d hdm fld (KN NA);have hsm:md 1603 rv:=by
         subst hyr;have hm:=KN hrv;obtain⟨c,hc,rfl⟩:=List.mem_map.1 (show rv∈y.2.2.map (fun c=>du c.2)from hm);exact(DI 1603).1 0 (av c.2) (Jy c.2)
        obtain⟨gF,e,f0,f1,f2,f3,f4⟩:=hda.f.at NA;cases e;have hgF:gF<wr.heap.size:=KQ wr _ f0;have hdfl:=(hfl d hdm).1;have HFN:=aa (fun W (hW:Lt wr W)=>rt d.sort d.name aA aT d.Ly.length cA d.Lw.length cT d.LC (.slice (some ⟨gF,0,none⟩) d.fields.length cF) n (d.fields.map bj.name) W ((hda.f.below hW).names) (by simp;omega));rw[hfi]at HFN;have HFT:=aa (fun W (hW:Lt wr W)=>JM (aR:=aR) (nR:=nR) (cR:=cR) HE.o ty hwf (by rw[hty1];exact hty2) (hty3.imp (fun e=>e) (fun e=>by omega)) W f rv 1603 (bT HBJ.o hW) (hva.frame (fun g hg o=>hW.cell (p:=⟨g,o,none⟩) hg) (fun g hg=>KV hg hW.size)) hsm);rw[hty1]at HFT;unfold bw at HFT;have HQN:=aa (show qz=(fk (fH Lv (xs.map (·.1))) ty rv&&((r.names.zip r.vals).drop (j+1)).all (MZ Lv (xs.map (·.1)) d))from by
         rw[HQJ.o,ow (show(r.names.zip r.vals)[j]?=some (n,rv)from by rw[List.getElem?_zip_eq_some];exact⟨hn,hrv⟩)];show(MZ _ _ _ (n,rv)&&_)=_;congr 1;unfold MZ;simp only[hfi,Lk,NA,<-hty1,Bp ty hwf])
        generalize fk (fH Lv (xs.map (·.1))) ty rv=qf at*;clear hN hV hN2 hV2 hva Ma hda Og hyo hfi NA hn hrv hf f0 f1 f3 f4 hty1 hty2 hty3 hsm hwf hrm hdm l1 hyr hfv hy;go_upto_region 18 with fail;go_cut [13] (fun v13 wc=>∃N,v13=.pointer (some ⟨N,0,none⟩)/\wr.heap.size<=N/\wc.heap[N]?=some (.cells #[.int .i64 d.sort,.string d.name,.slice (some ⟨gF,0,none⟩) d.fields.length cF,.slice aA d.Ly.length cA,.bool d.LC,.slice aT d.Lw.length cT] 96 (0,0))/\Lt wr wc)
        case first=>
         go_region;all_goals(try go_wp2_with fail)
         all_goals(go_meet;first
          |exact⟨wr.heap.size,rfl,KK _,KS wr _,bA (KL _ _) _⟩
          |exact⟨wr.heap.size,rfl,KK _,KS wr.drew _,bA (KL _ _).drew _⟩
          |exact⟨wr.heap.size,rfl,KK _,KS wr _,(bA (KL _ _) _).drew⟩
          |trace_state)
        case rest=>
         obtain⟨N,rfl,hNl,hDb,hbc⟩:=hcut;have c:=ae hDb;have hlN:=ag hDb;have HBC:=aa hbc;have n0:=ao hbc n0;have v0:=ao hbc v0;have v1:=ao hbc v1;have v2:=ao hbc v2;have v3:=ao hbc v3;have l2:=ao hbc l2;have l3:=ao hbc l3;have f2:=ao hbc f2;have cX:=fun k=>(hbc.cell (p:=⟨w.heap.size,k,none⟩) hlX3).trans (cX k);clear d0 d1 d2 d3 d4 d5 l0 hbc hDb;have hlXc:w.heap.size<wc.heap.size:=KV hlX3 HBC.o.size;have HFN2:=aa (fun W (hW:Lt wc W)=>HFN.o W (bT HBC.o hW));have HFT2:=aa (fun W (hW:Lt wc W)=>HFT.o W (bT HBC.o hW));simp only[Ll]at HFT2;clear HFN HFT;go_upto_region 19 with fail;go_cut [14] (fun v14 wd=>v14=.bool qf/\Lt wc wd)
         case first=>
          clear HQN HBC HBJ HQJ HLR HDD HRR HZ HQZ HVE HBO HQO Mb HRD HE HG1 HX2 HB HL HXI HX1 HX3 HD HY HTY hgL hgN hgV hgD hgF hlX hlX2 hlX3 hm hm2 hil hix hNl hcl hfl;have hj0:(0:Int)<=(j:Int):=by omega
          have hj1:(j:Int)<(r.names.length:Int):=by omega
          have hi0:(0:Int)<=(i:Int):=by omega
          have hi1:(i:Int)<(xs.length:Int):=by omega
          have hF0:(0:Int)<=(fi:Int):=by omega
          have hF1:(fi:Int)<(d.fields.length:Int):=by omega
          have HS:=aa (fun W (hW:Lt wc W)=>And.intro hW (And.intro (ao hW n0) (And.intro (ao hW v0) (And.intro (ao hW v1) (And.intro (ao hW v2) (And.intro (ao hW v3) (And.intro (ao hW l2) (And.intro (ao hW l3) (And.intro (ao hW f2) (And.intro (fun k=>(hW.cell (p:=⟨w.heap.size,k,none⟩) hlXc).trans (cX k)) (fun k=>(hW.cell (p:=⟨N,k,none⟩) hlN).trans (c k))))))))))));clear n0 v0 v1 v2 v3 l2 l3 f2 cX c;go_region_held3 (fun W=>Lt wc W/\W.cell? ⟨gN,oN+j,none⟩=some (.string n)/\W.cell? ⟨gV,oV+j*4,none⟩=some (.int .i64 f.sh)/\W.cell? ⟨gV,oV+j*4+1,none⟩=some (.int .i64 f.n)/\W.cell? ⟨gV,oV+j*4+2,none⟩=some (.string f.s)/\W.cell? ⟨gV,oV+j*4+3,none⟩=some (.slice f.la f.ln f.lc)/\W.cell? ⟨gL,i*4+2,none⟩=some (.slice (some ⟨gN,oN,none⟩) r.names.length cN')/\W.cell? ⟨gL,i*4+3,none⟩=some (.slice (some ⟨gV,oV,none⟩) r.names.length cV')/\W.cell? ⟨gF,fi*5+2,none⟩=some (.string fld.ty)/\(∀k,W.cell? ⟨w.heap.size,k,none⟩=(#[.slice aR nR cR,.slice (some ⟨gD,0,none⟩) Lv.length cD]:Array Value)[k]?)/\(∀k,W.cell? ⟨N,k,none⟩=(#[.int .i64 d.sort,.string d.name,.slice (some ⟨gF,0,none⟩) d.fields.length cF,.slice aA d.Ly.length cA,.bool d.LC,.slice aT d.Lw.length cT]:Array Value)[k]?))
           (first|exact HS.o _ (KL _ _).drew|exact HS.o _ (bT bh b1)|exact HS.o _ (bT bh b2))
           (first
           |(go_at_call 49;obtain⟨bh, -⟩:= ‹Lt wc _/\_›;refine(HFN2.o _ bh).mono ?_;rintro _ w1 ⟨rfl,b1⟩)
           |(go_at_call 48;obtain⟨bh, -⟩:= ‹Lt wc _/\_›;refine(HFT2.o _ bh).mono ?_;rintro _ w2 ⟨rfl,b2⟩))
          all_goals(try go_wp2_with fail)
          all_goals(obtain⟨bh, -⟩:= ‹Lt wc _/\_›;go_meet;exact⟨rfl,bh⟩)
         case rest=>
          obtain⟨rfl,hbd⟩:=hcut;have HBD:=aa (bT (bT HBJ.o HBC.o) hbd);clear v0 v1 v2 v3 l2 l3 f2 cX c n0 hbd;cases qf
          ·have HF:=aa (show q=false from by rw[HZ.o,HQN.o];rfl)
           go_wp2_with fail;exact bodyPost_ret (v:=.tuple #[.slice none 0 0,.bool false]) (by simp[results,results27,go_sem]) rfl ⟨.slice none 0 0,by rw[HF.o],fun e=>(by rw[HF.o]at e;cases e),⟨_,_,_,rfl⟩,bT (bT HX3.o HB.o) HBD.o⟩
          ·go_wp2_with fail
           go_roundg (r.names.length-(j+1))
           case measure=>omega
           case rel=>exact⟨j+1,by go_num,by omega,KK _,HBD.o,by rw[HQN.o];rfl⟩
       ·have hje:j=r.names.length:=by omega
        subst hje;have HT:=aa (show q=((xs.map (·.1)).drop (i+1)).all (fitRow Lv (xs.map (·.1)))from by
         rw[HZ.o,HQJ.o,Lp (by simp[HVE.o])];rfl)
        go_wp2_with fail;go_roundg (xs.length-(i+1))
        case measure=>omega
        case rel=>exact⟨i+1,by go_num,by omega,KK _,HBJ.o,HT.o⟩
     ·have hie:i=xs.length:=by omega
      subst hie;have HT:=aa (show q=true from by rw[HQO.o,<-Ll (f:=fun x:LX=>x.1),List.drop_length];rfl);go_wp2_with fail;refine bodyPost_ret (v:=.tuple #[.slice aL xs.length cL,.bool true]) (by simp[results,results27,go_sem]) rfl ⟨_,by rw[HT.o],fun _=>?_,⟨_,_,_,rfl⟩,bT (bT HX3.o HB.o) HBO.o⟩;rw[<-HX2.o];exact(HL.o.rows).below HBO.o
def nS:RV->Nat×Int×Ls
 | .mk sh n s _=>(sh,n,s)
def kE:List Ls->List RV->Ls->Nat×Int×Ls
 |n::ns,v::vs,x=>if n=x then nS v else kE ns vs x
 |_,_,_=>(0,0,⟨#[]⟩)
theorem Da{w:World}{B:Nat->Prop}(x:Ls):∀(ns:List Ls) (fs:List FV) (vs:List RV),oE w B fs vs->mE (bR ns fs x)=kE ns vs x
 |[],_,_,_=>by rw[bR,kE]<;>first|rfl|simp
 |_::_,[],[],_=>by rw[bR,kE]<;>first|rfl|simp
 |_::_,[],v::vs,h=>by have:=h.1;simp at this
 |_::_,f::fs,[],h=>by have:=h.1;simp at this
 |n::ns,f::fs,v::vs,h=>by
  rw[bR,kE];split
  ·have hv:=h.2 0 f v rfl rfl
   obtain⟨sh,m,s,l⟩:=v;obtain⟨e1,e2,e3,_⟩:=hv.parts;simp[mE,nS,e1,e2,e3]
  ·exact Da x ns fs vs ⟨by have:=h.1;simpa using this,fun i f' v' hf hv=>h.2 (i+1) f' v' (by simpa using hf) (by simpa using hv)⟩
def pB(Lu:List aj)(LK vid:Ls)(r:cy):lH:=⟨ic Lu LK,kE r.names r.vals,vid⟩
def mN(Lu:List aj)(LK:Ls)(LS:List bj)(n:Ls):Bool:=match LS[(ah (LS.map bj.name) n).toNat]? with
 |some f=>ic Lu LK f.LG&&ic Lu LK f.LH
 |none=>false
def oh(Lu:List aj)(Lv:List ap)(Lw:Nat->List aK)(LK vid:Ls)(y:bo):Option bo:=match Lv[(bO Lv y).d]? with
 |some d=>if pE d.LC (pB Lu LK vid (bO Lv y)) (Lw (bO Lv y).d)=true then none else some (y.1,y.2.1,y.2.2.filter fun c=>mN Lu LK d.fields c.1)
 |none=>none
def nG(Lu:List aj)(Lv:List ap)(Lw:Nat->List aK)(LK vid:Ls)(ys:List bo):List bo:=ys.filterMap (oh Lu Lv Lw LK vid)
structure zj(w0:World)(vR:Value)(aD:Option Addr)(cD:Nat)(Lu:List aj)(Lv:List ap)(Lw:Nat->List aK):Prop where
 r:gZ w0 vR Lu
 rl:Lu.length<=801
 ri:(fQ Lu).length<=700000
 d:i5 w0 (.slice aD Lv.length cD) Lv
 dl:Lv.length<=801
 df:∀d∈Lv,d.fields.length<=801/\d.Lw.length<=801/\∀t∈d.Lw,io t
 g:∀k d,Lv[k]?=some d->d.LC=true->dn 2 d.Lw (Lw k)
theorem BO{a b c:Value}(h1:a.oneCell'=true)(h2:b.oneCell'=true)(h3:c.oneCell'=true):∀u∈[a,b,c],u.oneCell'=true:=by
 intro u hu;simp at hu;rcases hu with rfl|rfl|rfl<;>assumption
theorem Gb{X:World}{N:Nat}{a b c d e:Value}{T:TypeId}{fr:Nat×Nat}(h:X.heap[N]?=some (.cells #[a,b,c,d,e] T fr))(x y z u v:Value):(((((X.setCell ⟨N,0,none⟩ x).setCell ⟨N,1,none⟩ y).setCell ⟨N,2,none⟩ z).setCell ⟨N,3,none⟩ u).setCell ⟨N,4,none⟩ v).heap[N]?=some (.cells #[x,y,z,u,v] T fr):=by
 have:=aJ (aJ (aJ (aJ (aJ h 0 x) 1 y) 2 z) 3 u) 4 v;simpa using this
end Go.Proofs.YtgbloieahmkcjaaGreat
