import Derived.Test.YtgbloieahmkcjaaGreatC16
import Derived.BigQuiet
namespace Go.Proofs.YtgbloieahmkcjaaGreat
set_option maxHeartbeats 20000000
set_option maxRecDepth 100000
open Go.RowKit Tryz
attribute [local go_sem ↓] Go.wp_at_zero Go.wp_at_succ
structure bC where
 name:Ls
 fields:List ax
structure bB where
 name:Ls
 LB:List Ls
structure b9 where
 Lu:List aj
 Lx:List aH
 ifs:List bC
 uns:List bB
 names:List Ls
def pF:Ls:=aE [105,110,116,101,114,102,97,99,101]
def pA:Ls:=aE [117,110,105,111,110]
def bX(c:b9)(s:St):b9×St:=
 if nm s=oe then({c with Lu:=c.Lu++[(fB (ab s)).1]},(fB (ab s)).2)
 else if nm s=oG then({c with Lx:=c.Lx++[(cn (ab s)).1],names:=c.names++[(cn (ab s)).1.name]},(cn (ab s)).2)
 else if nm s=pF then({c with ifs:=c.ifs++[⟨nm (ab s),(dC (ab (ab s))).1⟩],names:=c.names++[nm (ab s)]},(dC (ab (ab s))).2)
 else if nm s=pA then({c with uns:=c.uns++[⟨nm (ab s),(fM (ab (ab s))).1⟩],names:=c.names++[nm (ab s)]},(fM (ab (ab s))).2)
 else(c,none)
structure dk{β:Type}(w:World)(B e size:Nat)(v:Value)(flat:β->List Value)(ok:World->β->Prop)(L:List β):Prop where
 own:w.ownsRow B e size v L.length (L.flatMap flat)
 ok:∀x∈L,ok w x
def ip(S:Nat)(w w':World):Prop:=au 9 S w w'/\au 180 S w w'/\au 257 S w w'/\au 216 S w w'/\au 161 S w w'
def mv(x:aj×Value):List Value:=[.string x.1.name,x.2]
def gj(S:Nat)(w:World)(x:aj×Value):Prop:=w.ownsRow S 9 1 x.2 x.1.LA.length (bt x.1.LA)/\x.1.LA.length<=803
def sE(x:aH×Value×Value×Value):List Value:=[.string x.1.name,x.2.1,x.2.2.1,x.2.2.2]
def gb(S:Nat)(w:World)(x:aH×Value×Value×Value):Prop:=iv w S x.2.1 x.1.fields/\x.1.fields.length<=802/\w.ownsRow S 9 1 x.2.2.1 x.1.LE.length (bt x.1.LE)/\x.1.LE.length<=803/\jX w S x.2.2.2 x.1.Lw x.1.tree
def sD(x:bC×Value):List Value:=[.string x.1.name,x.2]
def gl(S:Nat)(w:World)(x:bC×Value):Prop:=iv w S x.2 x.1.fields/\x.1.fields.length<=802
def tT(x:bB×Value):List Value:=[.string x.1.name,x.2]
def gc(S:Nat)(w:World)(x:bB×Value):Prop:=w.ownsRow S 9 1 x.2 x.1.LB.length (bt x.1.LB)/\x.1.LB.length<=803
theorem gj.stays{S:Nat}{w w':World}(h:ip S w w'){x:aj×Value}(hx:gj S w x):gj S w' x:=⟨dO hx.1 h.1,hx.2⟩
theorem gb.stays{S:Nat}{w w':World}(h:ip S w w'){x:aH×Value×Value×Value}(hx:gb S w x):gb S w' x:=⟨hx.1.stays h.2.1 h.2.2.1,hx.2.1,dO hx.2.2.1 h.1,hx.2.2.2.1,hx.2.2.2.2.stays h.2.2.2.1 h.2.2.2.2⟩
theorem gl.stays{S:Nat}{w w':World}(h:ip S w w'){x:bC×Value}(hx:gl S w x):gl S w' x:=⟨hx.1.stays h.2.1 h.2.2.1,hx.2⟩
theorem gc.stays{S:Nat}{w w':World}(h:ip S w w'){x:bB×Value}(hx:gc S w x):gc S w' x:=⟨dO hx.1 h.1,hx.2⟩
theorem dk.stays{β:Type}{w w':World}{B e size:Nat}{v:Value}{flat:β->List Value}{ok:World->β->Prop}{L:List β}(h:dk w B e size v flat ok L)(h1:au e B w w')(h2:∀x,ok w x->ok w' x):dk w' B e size v flat ok L:=
 ⟨dO h.own h1,fun x hx=>h2 x (h.ok x hx)⟩
structure jx(w:World)(S:Nat)(c:b9):Prop where
 ex:∃vR vO vI vU vN LR LO LI LU,SC w S vR vO vI vU vN/\dk w S 154 2 vR mv (gj S) LR/\dk w S 163 4 vO sE (gb S) LO/\dk w S 197 2 vI sD (gl S) LI/\dk w S 200 2 vU tT (gc S) LU/\w.ownsRow S 152 1 vN c.names.length (bt c.names)/\LR.map Prod.fst=c.Lu/\LO.map Prod.fst=c.Lx/\LI.map Prod.fst=c.ifs/\LU.map Prod.fst=c.uns
theorem info154:(prog.info? 154).map (fun i=>(i.zero,i.size,i.bytes))=some (some (.agg #[.string ⟨#[]⟩,.slice none 0 0]),2,40):=by kernel_rfl
theorem info163:(prog.info? 163).map (fun i=>(i.zero,i.size,i.bytes))=some (some (.agg #[.string ⟨#[]⟩,.slice none 0 0,.slice none 0 0,.pointer none]),4,72):=by kernel_rfl
theorem info197:(prog.info? 197).map (fun i=>(i.zero,i.size,i.bytes))=some (some (.agg #[.string ⟨#[]⟩,.slice none 0 0]),2,40):=by kernel_rfl
theorem info200:(prog.info? 200).map (fun i=>(i.zero,i.size,i.bytes))=some (some (.agg #[.string ⟨#[]⟩,.slice none 0 0]),2,40):=by kernel_rfl
theorem pZ{a b:Value}(h1:a.oneCell'=true)(h2:b.oneCell'=true):∀u∈[a,b],u.oneCell'=true:=by
 intro u hu;simp at hu;rcases hu with rfl|rfl<;>assumption
theorem II{a b c d:Value}(h1:a.oneCell'=true)(h2:b.oneCell'=true)(h3:c.oneCell'=true)(h4:d.oneCell'=true):∀u∈[a,b,c,d],u.oneCell'=true:=by
 intro u hu;simp at hu;rcases hu with rfl|rfl|rfl|rfl<;>assumption
theorem bP.inner{b S' S:Nat}{w w':World}(h:bP b S' w w'):ip S w w':=⟨h.stay (by decide) (by decide) (by decide),h.stay (by decide) (by decide) (by decide),h.stay (by decide) (by decide) (by decide),h.stay (by decide) (by decide) (by decide),h.stay (by decide) (by decide) (by decide)⟩
structure Lo(b S:Nat)(w w':World):Prop where
 os:w'.os=w.os
 tape:w'.tape=w.tape
 output:w'.output=w.output
 size:w.heap.size<=w'.heap.size
 low:∀k,k<S->k<w.heap.size->k≠b->w'.heap[k]?=w.heap[k]?
theorem Lo.refl(b S:Nat)(w:World):Lo b S w w:=⟨rfl,rfl,rfl,KK _,fun _ _ _ _=>rfl⟩
theorem Lo.trans{b S:Nat}{x y z:World}(h:Lo b S x y)(k:Lo b S y z):Lo b S x z:=⟨k.os.trans h.os,k.tape.trans h.tape,k.output.trans h.output,KP h.size k.size,fun i hS hi hb=>(k.low i hS (KV hi h.size) hb).trans (h.low i hS hi hb)⟩
theorem Lo.of_keep{b S:Nat}{w w':World}(h:ai b w w'):Lo b S w w':=⟨h.os,h.tape,h.output,h.size,fun k _ hk hb=>h.block k hk hb⟩
theorem bP.lo{b S:Nat}{w w':World}(h:bP b S w w'):Lo b S w w':=⟨h.os,h.tape,h.output,h.size,h.low⟩
theorem Lo.of_below{b S:Nat}{w w':World}(h:Lt w w'):Lo b S w w':=⟨h.os,h.tape,h.output,h.size,fun k _ hk _=>h.block k hk⟩
theorem Lo.of_grown{b S:Nat}{y z:World}{row:Option Nat}(hg:y.grownBy z row)(hr:∀k,row=some k->S<=k):Lo b S y z:=⟨hg.os,hg.tape,hg.output,hg.size,fun k hS hk _=>hg.block k hk (fun e=>by have:=hr k e.symm;omega)⟩
theorem Lo.set{b S:Nat}{x y:World}{F:Nat}(h:Lo b S x y)(hF:S<=F)(i:Nat)(v:Value):Lo b S x (y.setCell ⟨F,i,none⟩ v):=h.trans ⟨rfl,rfl,rfl,by simp[World.setCell],fun k hS _ _=>KX _ _ _ _ (fun e=>by have e2:k=F:=e;omega)⟩
theorem Lo.below{b S B:Nat}{w w':World}(h:Lo b S w w')(hb:B<=b)(hS:B<=S)(hB:B<=w.heap.size):Below B w w':=⟨h.os,h.tape,h.output,h.size,fun k hk=>h.low k (by omega) (by omega) (by omega)⟩
theorem BJ(w:World)(p b S G:Nat)(s:St)(c:b9)(hP:PP w p b S)(h:PS w b G s)(hc:jx w S c)(hbS:b<S)(hGS:G<S)(hlR:c.Lu.length<=100000)(hlO:c.Lx.length<=100000)(hlI:c.ifs.length<=100000)(hlU:c.uns.length<=100000)(hnl:c.names.length<=100000):
 Calls prog 53 #[.pointer (some ⟨p,0,none⟩)] w fun e w'=>e=.returned (.tuple #[])/\PS w' b G (bX c s).2/\PP w' p b S/\jx w' S (bX c s).1/\Lo b S w w':=by
 obtain⟨vR,vO,vI,vU,vN,LR,LO,LI,LU,hS,hR,hO,hI,hU,hN,mR,mO,mI,mU⟩:=hc.ex;clear hc;have hlR':LR.length<=100000:=by rw[<-mR]at hlR;simpa using hlR
 have hlO':LO.length<=100000:=by rw[<-mO]at hlO;simpa using hlO
 have hlI':LI.length<=100000:=by rw[<-mI]at hlI;simpa using hlI
 have hlU':LU.length<=100000:=by rw[<-mU]at hlU;simpa using hlU
 have HMR:=aa mR;have HMO:=aa mO;have HMI:=aa mI;have HMU:=aa mU;clear mR mO mI mU hlR hlO hlI hlU;obtain⟨aR,cR,rfl⟩:=bc hR.own;obtain⟨aO,cO,rfl⟩:=bc hO.own;obtain⟨aI,cI,rfl⟩:=bc hI.own;obtain⟨aU',cU',rfl⟩:=bc hU.own;have hlt:=h.lt;have hgl:=h.glt;have hpl:=hP.lt;have hSl:=ag hS;have c0:=hP.c0;have cS:=hP.c1;have hc:=mr w b G s h;have H0:=aa h;have HP0:=aa hP;have HS0:=aa (show w.heap[S]?=some (.cells #[.slice aR LR.length cR,.slice aO LO.length cO,.slice aI LI.length cI,.slice aU' LU.length cU',vN] 133 (0,0))from hS);have HR0:=aa hR;have HO0:=aa hO;have HI0:=aa hI;have HU0:=aa hU;have HN0:=aa hN;clear h hP hS hR hO hI hU hN;have L1:=bV (nm s) [114,111,108,101];have L2:=bV (nm s) [116,121,112,101];have L3:=bV (nm s) [105,110,116,101,114,102,97,99,101];have L4:=bV (nm s) [117,110,105,111,110];by_cases e1:nm s=oe
 ·skip
  have HQ:=aa (show bX c s=({c with Lu:=c.Lu++[(fB (ab s)).1]},(fB (ab s)).2)from by unfold bX;rw[K9 e1]);rw[Le (show nm s=aE _ from e1)]at L1;clear e1 L2 L3 L4;generalize bX c s=FF at*;generalize nm s=n0 at*;generalize ab s=s1 at*;have hcl:=fun W (hP:PP W p b S) (h:PS W b G s1)=>JB W p b S G s1 hP h;generalize fB s1=el at*;go_enter func53,ntmps53;go_wp2_with fail;refine hc.mono ?_;clear hc;rintro e w1 ⟨rfl,h1,k1⟩;have hy1:bP b S w w1:=bP.of_keep k1 H0.o.ty.choose_spec;have hst:∀T,T≠193->au T S w w1:=fun T hT=>H0.o.stay k1 hT;have Mx:ip S w w1:=⟨hst _ (by decide),hst _ (by decide),hst _ (by decide),hst _ (by decide),hst _ (by decide)⟩;have HS1:=aa (k1.at HS0.o (by omega));have HR1:=aa (HR0.o.stays (hst _ (by decide)) (fun x hx=>gj.stays Mx hx));have HO1:=aa (HO0.o.stays (hst _ (by decide)) (fun x hx=>gb.stays Mx hx));have HI1:=aa (HI0.o.stays (hst _ (by decide)) (fun x hx=>gl.stays Mx hx));have HU1:=aa (HU0.o.stays (hst _ (by decide)) (fun x hx=>gc.stays Mx hx));have HN1:=aa (dO HN0.o (hst _ (by decide)));have HP1:=aa (HP0.o.keep H0.o k1);have H1:=aa (show PS w1 b G s1 from h1);have HL1:=aa (Lo.of_keep (S:=S) k1);clear h1 k1 hy1 hst Mx H0 HP0 HS0 HR0 HO0 HI0 HU0 HN0;have zw1:=ag HS1.o;have zp1:=HP1.o.lt;have dA:w1.cell? ⟨S,0,none⟩=some (.slice aR LR.length cR):=ae HS1.o 0;have fA:=ar HS1.o 0;have HC:=aa (show∀W,Lt w1 W->Calls prog 94 #[.pointer (some ⟨p,0,none⟩)] W fun e w'=>∃aU nU cU vN',e=.returned (.agg #[.string el.1.name,.slice aU nU cU])/\PS w' b G el.2/\PP w' p b S/\bP b S w1 w'/\w'.heap[S]?=some (.cells #[.slice aR LR.length cR,.slice aO LO.length cO,.slice aI LI.length cI,.slice aU' LU.length cU',vN'] 133 (0,0))/\w'.ownsRow S 152 1 vN' c.names.length (bt c.names)/\gj S w' (el.1,Value.slice aU nU cU)/\w'.cell? ⟨S,0,none⟩=some (Value.slice aR LR.length cR)/\w'.frozen? ⟨S,0,none⟩=false/\w'.ownsRow S 154 2 (Value.slice aR LR.length cR) LR.length (LR.flatMap mv)/\w1.heap.size<=w'.heap.size from fun W hW=>(hcl W (HP1.o.below hW) (H1.o.below hW)).mono (by
   rintro e w' ⟨u,a1,a5,a6,q⟩;have a2:=q.ps;have a3:=q.kp;have a4:=(ai.of_below (b:=b) hW).trans a3;obtain⟨aU,cU,rfl⟩:=bc a5;have hS':=a4.at HS1.o (by omega);exact⟨aU,_,cU,vN,a1,a2,HP1.o.keep H1.o a4,bP.of_keep a4 H1.o.ty.choose_spec,hS',dO HN1.o (H1.o.stay a4),⟨iJ a5 (by have:=hW.size;omega),by simp only[];omega⟩,ae hS' 0,ar hS' 0,dO HR1.o.own (H1.o.stay a4),a4.size⟩))
  have hlo:Option.some S≠(Value.slice aR LR.length cR).ownBlock:=jP HR1.o.own HS1.o (by decide);have hrd:∀k,(Value.slice aR LR.length cR).ownBlock=some k->S<=k:=fun k hk=>(HR1.o.own.lt k hk).1;have NF:Option.some b≠(Value.slice aR LR.length cR).ownBlock:=fun e=>by have:=hrd b e.symm;omega
  have Of:Option.some G≠(Value.slice aR LR.length cR).ownBlock:=fun e=>by have:=hrd G e.symm;omega
  have Nz:Option.some p≠(Value.slice aR LR.length cR).ownBlock:=jP HR1.o.own HP1.o (by decide);obtain⟨i0,hi,hz0,hz1,hz2⟩:=info_parts info154;clear hcl;go_wp2_with fail;go_region_law (first
   |(refine step_append_lies _ (by rfl) _ _ _ (by rfl) S 154 i0 _ 2 40 underlying127 hi hz0 hz1 hz2 rfl (by decide) _ _ _ (by rfl) (hO4.alloc _) ⟨w4.heap.size,0,none⟩ 1 1 [.string el.1.name,.slice aU nU cU] (by rfl) (by rfl) (de _ _ _ _ (by simp)) (pZ rfl rfl) (by decide) (by unfold maxLen;omega) (by omega) (by simp;omega) (w4.heap.size+1) (by simp) ?_;intro g cap w5 LV hgrow hat hg5;have e5:w5.cell? ⟨S,0,none⟩=some (Value.slice aR LR.length cR):=(hgrow.cell_far ⟨S,0,none⟩ (by simp;omega) hlo).trans ((((KL w4.heap.size w4).alloc (KK _) _).cell (show S<w4.heap.size by omega)).trans d4);have f5:w5.frozen? ⟨S,0,none⟩=false:=(hgrow.frozen_far ⟨S,0,none⟩ (by simp;omega) hlo).trans ((((KL w4.heap.size w4).alloc (KK _) _).frozen (show S<w4.heap.size by omega)).trans f4))
   |(go_simp;go_at_call 94;refine(HC.o _ ?_).mono ?_;(first|exact(KL _ _).drew|exact KL _ _);rintro e w4 ⟨aU,nU,cU,vN',rfl,h4,hP4,hy4,hS4,hN4,Ns,d4,f4,hO4,z4⟩;have n4:w4.heap.size≠S:=(by omega);have n4':S<w4.heap.size:=(by omega)))
  all_goals(
   have g5S:w5.heap[S]?=some (.cells #[.slice aR LR.length cR,.slice aO LO.length cO,.slice aI LI.length cI,.slice aU' LU.length cU',vN'] 133 (0,0)):=(hgrow.block S (by simp;omega) hlo).trans ((bp _ _ _ n4').trans hS4);have hst:∀T,154≠T->133≠T->au T S w4 (w5.setCell ⟨S,0,none⟩ (Value.slice (some ⟨g,0,none⟩) (LR.length+1) cap)):=fun T h1 h2=>((au.alloc _).trans (au.grown hgrow (hO4.alloc _) rfl h1)).trans (au.setT g5S h2 0 (Value.slice (some ⟨g,0,none⟩) (LR.length+1) cap));have hin:ip S w4 (w5.setCell ⟨S,0,none⟩ (Value.slice (some ⟨g,0,none⟩) (LR.length+1) cap)):=⟨hst _ (by decide) (by decide),hst _ (by decide) (by decide),hst _ (by decide) (by decide),hst _ (by decide) (by decide),hst _ (by decide) (by decide)⟩;have hiy:ip S w1 w4:=hy4.inner;have hsy:∀T,T≠193->T≠133->T≠152->154≠T->au T S w1 (w5.setCell ⟨S,0,none⟩ (Value.slice (some ⟨g,0,none⟩) (LR.length+1) cap)):=fun T h1 h2 h3 h4=>(hy4.stay h1 h2 h3).trans (hst T h4 (fun e=>h2 e.symm));have gS:=((h4.alloc _).grown' hgrow NF Of).set (F:=S) (by omega) (by omega) 0 (Value.slice (some ⟨g,0,none⟩) (LR.length+1) cap);have gP:=((hP4.alloc _).grown' hgrow Nz).set g5S (by decide) 0 (Value.slice (some ⟨g,0,none⟩) (LR.length+1) cap);have gJ:dk (w5.setCell ⟨S,0,none⟩ (Value.slice (some ⟨g,0,none⟩) (LR.length+1) cap)) S 154 2 (Value.slice (some ⟨g,0,none⟩) (LR.length+1) cap) mv (gj S) (LR++[(el.1,Value.slice aU nU cU)]):=⟨by rw[Lb,List.flatMap_append];exact dO LV (au.setT g5S (by decide) 0 (Value.slice (some ⟨g,0,none⟩) (LR.length+1) cap)),fun x hx=>by
    rcases List.mem_append.1 hx with hx|hx
    ·exact gj.stays hin (gj.stays hiy (HR1.o.ok x hx))
    ·rw[List.mem_singleton]at hx;subst hx;exact gj.stays hin Ns⟩
   have gvO:=HO1.o.stays (hsy 163 (by decide) (by decide) (by decide) (by decide)) (fun x hx=>gb.stays hin (gb.stays hiy hx));have gvI:=HI1.o.stays (hsy 197 (by decide) (by decide) (by decide) (by decide)) (fun x hx=>gl.stays hin (gl.stays hiy hx));have gvU:=HU1.o.stays (hsy 200 (by decide) (by decide) (by decide) (by decide)) (fun x hx=>gc.stays hin (gc.stays hiy hx));have gN:=dO hN4 (hst 152 (by decide) (by decide));have gL:=((HL1.o.trans hy4.lo).trans ((Lo.of_below ((KL w4.heap.size w4).alloc (KK _) _)).trans (Lo.of_grown hgrow hrd))).set (KK S) 0 (Value.slice (some ⟨g,0,none⟩) (LR.length+1) cap);have HX:=aa (show PS _ b G FF.2/\PP _ p b S/\jx _ S FF.1/\Lo b S w _ from⟨by rw[HQ.o];exact gS,gP,by rw[HQ.o];exact⟨(Value.slice (some ⟨g,0,none⟩) (LR.length+1) cap),(.slice aO LO.length cO),(.slice aI LI.length cI),(.slice aU' LU.length cU'),vN',(LR++[(el.1,Value.slice aU nU cU)]),LO,LI,LU,aJ g5S 0 (Value.slice (some ⟨g,0,none⟩) (LR.length+1) cap),gJ,gvO,gvI,gvU,gN,by rw[Lr,HMR.o];rfl,HMO.o,HMI.o,HMU.o⟩,gL⟩);clear gS gP gJ gN gvO gvI gvU hst hin hiy hsy g5S LV hgrow h4 hP4 hy4 hS4 hN4 Ns hO4;go_wp2_with fail;go_end0;exact⟨rfl,HX.o⟩)
 by_cases e2:nm s=oG
 ·skip
  have HQ:=aa (show bX c s=({c with Lx:=c.Lx++[(cn (ab s)).1],names:=c.names++[(cn (ab s)).1.name]},(cn (ab s)).2)from by unfold bX;rw[K8 e1,K9 e2]);rw[KT (show¬nm s=aE _ from e1)]at L1;rw[Le (show nm s=aE _ from e2)]at L2;clear e1 e2 L3 L4;generalize bX c s=FF at*;generalize nm s=n0 at*;generalize ab s=s1 at*;have hcl:=fun W (vR vO vI vU vN:Value) (names:List Ls) (hP:PP W p b S) (h:PS W b G s1) (hS:SC W S vR vO vI vU vN) (hN:W.ownsRow S 152 1 vN names.length (bt names)) (hnl:names.length<=100000)=>Ev (⟨hP,h,⟨vN,hS,hN⟩,hbS,hGS,hnl⟩:DC W p b S G s1 vR vO vI vU names);generalize cn s1=el at*;go_enter func53,ntmps53;go_wp2_with fail;refine hc.mono ?_;clear hc;rintro e w1 ⟨rfl,h1,k1⟩;have hy1:bP b S w w1:=bP.of_keep k1 H0.o.ty.choose_spec;have hst:∀T,T≠193->au T S w w1:=fun T hT=>H0.o.stay k1 hT;have Mx:ip S w w1:=⟨hst _ (by decide),hst _ (by decide),hst _ (by decide),hst _ (by decide),hst _ (by decide)⟩;have HS1:=aa (k1.at HS0.o (by omega));have HR1:=aa (HR0.o.stays (hst _ (by decide)) (fun x hx=>gj.stays Mx hx));have HO1:=aa (HO0.o.stays (hst _ (by decide)) (fun x hx=>gb.stays Mx hx));have HI1:=aa (HI0.o.stays (hst _ (by decide)) (fun x hx=>gl.stays Mx hx));have HU1:=aa (HU0.o.stays (hst _ (by decide)) (fun x hx=>gc.stays Mx hx));have HN1:=aa (dO HN0.o (hst _ (by decide)));have HP1:=aa (HP0.o.keep H0.o k1);have H1:=aa (show PS w1 b G s1 from h1);have HL1:=aa (Lo.of_keep (S:=S) k1);clear h1 k1 hy1 hst Mx H0 HP0 HS0 HR0 HO0 HI0 HU0 HN0;have zw1:=ag HS1.o;have zp1:=HP1.o.lt;have dA:w1.cell? ⟨S,1,none⟩=some (.slice aO LO.length cO):=ae HS1.o 1;have fA:=ar HS1.o 1;have HC:=aa (show∀W,Lt w1 W->Calls prog 95 #[.pointer (some ⟨p,0,none⟩)] W fun e w'=>∃aF nF cF aU nU cU qL vN',e=.returned (.agg #[.string el.1.name,.slice aF nF cF,.slice aU nU cU,.pointer qL])/\PS w' b G el.2/\PP w' p b S/\bP b S w1 w'/\w'.heap[S]?=some (.cells #[.slice aR LR.length cR,.slice aO LO.length cO,.slice aI LI.length cI,.slice aU' LU.length cU',vN'] 133 (0,0))/\w'.ownsRow S 152 1 vN' (c.names++[el.1.name]).length (bt (c.names++[el.1.name]))/\gb S w' (el.1,Value.slice aF nF cF,Value.slice aU nU cU,Value.pointer qL)/\w'.cell? ⟨S,1,none⟩=some (Value.slice aO LO.length cO)/\w'.frozen? ⟨S,1,none⟩=false/\w'.ownsRow S 163 4 (Value.slice aO LO.length cO) LO.length (LO.flatMap sE)/\w1.heap.size<=w'.heap.size from fun W hW=>(hcl W _ _ _ _ vN c.names (HP1.o.below hW) (H1.o.below hW) ((hW.block S zw1).trans HS1.o) (bZ HN1.o hW) hnl).mono (by
   rintro e w' ⟨vF,vA,vL,a1,t1,t2,t3,t4,t5,dp⟩;obtain⟨aF,cF,rfl⟩:=t1.slice;obtain⟨aU,cU,rfl⟩:=bc t3;obtain⟨qL,rfl⟩:=t5.ptr;obtain⟨a2,a7,a8,vN',hS',hN'⟩:=dp;have a9:bP b S w1 w':=(bP.of_below hW).trans a8;exact⟨aF,_,cF,aU,_,cU,qL,vN',a1,a2,a7,a9,hS',hN',⟨t1.mono (by have:=hW.size;omega),t2,iJ t3 (by have:=hW.size;omega),t4,t5.mono (by have:=hW.size;omega)⟩,ae hS' 1,ar hS' 1,dO HO1.o.own (a9.stay (by decide) (by decide) (by decide)),a9.size⟩))
  have hlo:Option.some S≠(Value.slice aO LO.length cO).ownBlock:=jP HO1.o.own HS1.o (by decide);have hrd:∀k,(Value.slice aO LO.length cO).ownBlock=some k->S<=k:=fun k hk=>(HO1.o.own.lt k hk).1;have NF:Option.some b≠(Value.slice aO LO.length cO).ownBlock:=fun e=>by have:=hrd b e.symm;omega
  have Of:Option.some G≠(Value.slice aO LO.length cO).ownBlock:=fun e=>by have:=hrd G e.symm;omega
  have Nz:Option.some p≠(Value.slice aO LO.length cO).ownBlock:=jP HO1.o.own HP1.o (by decide);obtain⟨i0,hi,hz0,hz1,hz2⟩:=info_parts info163;clear hcl;go_wp2_with fail;go_region_law (first
   |(refine step_append_lies _ (by rfl) _ _ _ (by rfl) S 163 i0 _ 4 72 underlying128 hi hz0 hz1 hz2 rfl (by decide) _ _ _ (by rfl) (hO4.alloc _) ⟨w4.heap.size,0,none⟩ 1 1 [.string el.1.name,.slice aF nF cF,.slice aU nU cU,.pointer qL] (by rfl) (by rfl) (de _ _ _ _ (by simp)) (II rfl rfl rfl rfl) (by decide) (by unfold maxLen;omega) (by omega) (by simp;omega) (w4.heap.size+1) (by simp) ?_;intro g cap w5 LV hgrow hat hg5;have e5:w5.cell? ⟨S,1,none⟩=some (Value.slice aO LO.length cO):=(hgrow.cell_far ⟨S,1,none⟩ (by simp;omega) hlo).trans ((((KL w4.heap.size w4).alloc (KK _) _).cell (show S<w4.heap.size by omega)).trans d4);have f5:w5.frozen? ⟨S,1,none⟩=false:=(hgrow.frozen_far ⟨S,1,none⟩ (by simp;omega) hlo).trans ((((KL w4.heap.size w4).alloc (KK _) _).frozen (show S<w4.heap.size by omega)).trans f4))
   |(go_simp;go_at_call 95;refine(HC.o _ ?_).mono ?_;(first|exact(KL _ _).drew|exact KL _ _);rintro e w4 ⟨aF,nF,cF,aU,nU,cU,qL,vN',rfl,h4,hP4,hy4,hS4,hN4,Ns,d4,f4,hO4,z4⟩;have n4:w4.heap.size≠S:=(by omega);have n4':S<w4.heap.size:=(by omega)))
  all_goals(
   have g5S:w5.heap[S]?=some (.cells #[.slice aR LR.length cR,.slice aO LO.length cO,.slice aI LI.length cI,.slice aU' LU.length cU',vN'] 133 (0,0)):=(hgrow.block S (by simp;omega) hlo).trans ((bp _ _ _ n4').trans hS4);have hst:∀T,163≠T->133≠T->au T S w4 (w5.setCell ⟨S,1,none⟩ (Value.slice (some ⟨g,0,none⟩) (LO.length+1) cap)):=fun T h1 h2=>((au.alloc _).trans (au.grown hgrow (hO4.alloc _) rfl h1)).trans (au.setT g5S h2 1 (Value.slice (some ⟨g,0,none⟩) (LO.length+1) cap));have hin:ip S w4 (w5.setCell ⟨S,1,none⟩ (Value.slice (some ⟨g,0,none⟩) (LO.length+1) cap)):=⟨hst _ (by decide) (by decide),hst _ (by decide) (by decide),hst _ (by decide) (by decide),hst _ (by decide) (by decide),hst _ (by decide) (by decide)⟩;have hiy:ip S w1 w4:=hy4.inner;have hsy:∀T,T≠193->T≠133->T≠152->163≠T->au T S w1 (w5.setCell ⟨S,1,none⟩ (Value.slice (some ⟨g,0,none⟩) (LO.length+1) cap)):=fun T h1 h2 h3 h4=>(hy4.stay h1 h2 h3).trans (hst T h4 (fun e=>h2 e.symm));have gS:=((h4.alloc _).grown' hgrow NF Of).set (F:=S) (by omega) (by omega) 1 (Value.slice (some ⟨g,0,none⟩) (LO.length+1) cap);have gP:=((hP4.alloc _).grown' hgrow Nz).set g5S (by decide) 1 (Value.slice (some ⟨g,0,none⟩) (LO.length+1) cap);have gJ:dk (w5.setCell ⟨S,1,none⟩ (Value.slice (some ⟨g,0,none⟩) (LO.length+1) cap)) S 163 4 (Value.slice (some ⟨g,0,none⟩) (LO.length+1) cap) sE (gb S) (LO++[(el.1,Value.slice aF nF cF,Value.slice aU nU cU,Value.pointer qL)]):=⟨by rw[Lb,List.flatMap_append];exact dO LV (au.setT g5S (by decide) 1 (Value.slice (some ⟨g,0,none⟩) (LO.length+1) cap)),fun x hx=>by
    rcases List.mem_append.1 hx with hx|hx
    ·exact gb.stays hin (gb.stays hiy (HO1.o.ok x hx))
    ·rw[List.mem_singleton]at hx;subst hx;exact gb.stays hin Ns⟩
   have gvR:=HR1.o.stays (hsy 154 (by decide) (by decide) (by decide) (by decide)) (fun x hx=>gj.stays hin (gj.stays hiy hx));have gvI:=HI1.o.stays (hsy 197 (by decide) (by decide) (by decide) (by decide)) (fun x hx=>gl.stays hin (gl.stays hiy hx));have gvU:=HU1.o.stays (hsy 200 (by decide) (by decide) (by decide) (by decide)) (fun x hx=>gc.stays hin (gc.stays hiy hx));have gN:=dO hN4 (hst 152 (by decide) (by decide));have gL:=((HL1.o.trans hy4.lo).trans ((Lo.of_below ((KL w4.heap.size w4).alloc (KK _) _)).trans (Lo.of_grown hgrow hrd))).set (KK S) 1 (Value.slice (some ⟨g,0,none⟩) (LO.length+1) cap);have HX:=aa (show PS _ b G FF.2/\PP _ p b S/\jx _ S FF.1/\Lo b S w _ from⟨by rw[HQ.o];exact gS,gP,by rw[HQ.o];exact⟨(.slice aR LR.length cR),(Value.slice (some ⟨g,0,none⟩) (LO.length+1) cap),(.slice aI LI.length cI),(.slice aU' LU.length cU'),vN',LR,(LO++[(el.1,Value.slice aF nF cF,Value.slice aU nU cU,Value.pointer qL)]),LI,LU,aJ g5S 1 (Value.slice (some ⟨g,0,none⟩) (LO.length+1) cap),gvR,gJ,gvI,gvU,gN,HMR.o,by rw[Lr,HMO.o];rfl,HMI.o,HMU.o⟩,gL⟩);clear gS gP gJ gN gvR gvI gvU hst hin hiy hsy g5S LV hgrow h4 hP4 hy4 hS4 hN4 Ns hO4;go_wp2_with fail;go_end0;exact⟨rfl,HX.o⟩)
 by_cases e3:nm s=pF
 ·skip
  have HQ:=aa (show bX c s=({c with ifs:=c.ifs++[⟨nm (ab s),(dC (ab (ab s))).1⟩],names:=c.names++[nm (ab s)]},(dC (ab (ab s))).2)from by unfold bX;rw[K8 e1,K8 e2,K9 e3]);rw[KT (show¬nm s=aE _ from e1)]at L1;rw[KT (show¬nm s=aE _ from e2)]at L2;rw[Le (show nm s=aE _ from e3)]at L3;clear e1 e2 e3 L4;generalize bX c s=FF at*;generalize nm s=n0 at*;generalize ab s=s1 at*;have hcl:=fun W (vR vO vI vU vN:Value) (names:List Ls) (hP:PP W p b S) (h:PS W b G s1) (hS:SC W S vR vO vI vU vN) (hN:W.ownsRow S 152 1 vN names.length (bt names)) (hnl:names.length<=100000)=>IG (⟨hP,h,⟨vN,hS,hN⟩,hbS,hGS,hnl⟩:DC W p b S G s1 vR vO vI vU names);generalize nm s1=en at*;generalize dC (ab s1)=el at*;go_enter func53,ntmps53;go_wp2_with fail;refine hc.mono ?_;clear hc;rintro e w1 ⟨rfl,h1,k1⟩;have hy1:bP b S w w1:=bP.of_keep k1 H0.o.ty.choose_spec;have hst:∀T,T≠193->au T S w w1:=fun T hT=>H0.o.stay k1 hT;have Mx:ip S w w1:=⟨hst _ (by decide),hst _ (by decide),hst _ (by decide),hst _ (by decide),hst _ (by decide)⟩;have HS1:=aa (k1.at HS0.o (by omega));have HR1:=aa (HR0.o.stays (hst _ (by decide)) (fun x hx=>gj.stays Mx hx));have HO1:=aa (HO0.o.stays (hst _ (by decide)) (fun x hx=>gb.stays Mx hx));have HI1:=aa (HI0.o.stays (hst _ (by decide)) (fun x hx=>gl.stays Mx hx));have HU1:=aa (HU0.o.stays (hst _ (by decide)) (fun x hx=>gc.stays Mx hx));have HN1:=aa (dO HN0.o (hst _ (by decide)));have HP1:=aa (HP0.o.keep H0.o k1);have H1:=aa (show PS w1 b G s1 from h1);have HL1:=aa (Lo.of_keep (S:=S) k1);clear h1 k1 hy1 hst Mx H0 HP0 HS0 HR0 HO0 HI0 HU0 HN0;have zw1:=ag HS1.o;have zp1:=HP1.o.lt;have dA:w1.cell? ⟨S,2,none⟩=some (.slice aI LI.length cI):=ae HS1.o 2;have fA:=ar HS1.o 2;have HC:=aa (show∀W,Lt w1 W->Calls prog 96 #[.pointer (some ⟨p,0,none⟩)] W fun e w'=>∃aU nU cU vN',e=.returned (.agg #[.string en,.slice aU nU cU])/\PS w' b G el.2/\PP w' p b S/\bP b S w1 w'/\w'.heap[S]?=some (.cells #[.slice aR LR.length cR,.slice aO LO.length cO,.slice aI LI.length cI,.slice aU' LU.length cU',vN'] 133 (0,0))/\w'.ownsRow S 152 1 vN' (c.names++[en]).length (bt (c.names++[en]))/\gl S w' ((⟨en,el.1⟩:bC),Value.slice aU nU cU)/\w'.cell? ⟨S,2,none⟩=some (Value.slice aI LI.length cI)/\w'.frozen? ⟨S,2,none⟩=false/\w'.ownsRow S 197 2 (Value.slice aI LI.length cI) LI.length (LI.flatMap sD)/\w1.heap.size<=w'.heap.size from fun W hW=>(hcl W _ _ _ _ vN c.names (HP1.o.below hW) (H1.o.below hW) ((hW.block S zw1).trans HS1.o) (bZ HN1.o hW) hnl).mono (by
   rintro e w' ⟨vF,a1,t1,t2,dp⟩;obtain⟨aU,cU,rfl⟩:=t1.slice;obtain⟨a2,a7,a8,vN',hS',hN'⟩:=dp;have a9:bP b S w1 w':=(bP.of_below hW).trans a8;exact⟨aU,_,cU,vN',a1,a2,a7,a9,hS',hN',⟨t1.mono (by have:=hW.size;omega),t2⟩,ae hS' 2,ar hS' 2,dO HI1.o.own (a9.stay (by decide) (by decide) (by decide)),a9.size⟩))
  have hlo:Option.some S≠(Value.slice aI LI.length cI).ownBlock:=jP HI1.o.own HS1.o (by decide);have hrd:∀k,(Value.slice aI LI.length cI).ownBlock=some k->S<=k:=fun k hk=>(HI1.o.own.lt k hk).1;have NF:Option.some b≠(Value.slice aI LI.length cI).ownBlock:=fun e=>by have:=hrd b e.symm;omega
  have Of:Option.some G≠(Value.slice aI LI.length cI).ownBlock:=fun e=>by have:=hrd G e.symm;omega
  have Nz:Option.some p≠(Value.slice aI LI.length cI).ownBlock:=jP HI1.o.own HP1.o (by decide);obtain⟨i0,hi,hz0,hz1,hz2⟩:=info_parts info197;clear hcl;go_wp2_with fail;go_region_law (first
   |(refine step_append_lies _ (by rfl) _ _ _ (by rfl) S 197 i0 _ 2 40 underlying129 hi hz0 hz1 hz2 rfl (by decide) _ _ _ (by rfl) (hO4.alloc _) ⟨w4.heap.size,0,none⟩ 1 1 [.string en,.slice aU nU cU] (by rfl) (by rfl) (de _ _ _ _ (by simp)) (pZ rfl rfl) (by decide) (by unfold maxLen;omega) (by omega) (by simp;omega) (w4.heap.size+1) (by simp) ?_;intro g cap w5 LV hgrow hat hg5;have e5:w5.cell? ⟨S,2,none⟩=some (Value.slice aI LI.length cI):=(hgrow.cell_far ⟨S,2,none⟩ (by simp;omega) hlo).trans ((((KL w4.heap.size w4).alloc (KK _) _).cell (show S<w4.heap.size by omega)).trans d4);have f5:w5.frozen? ⟨S,2,none⟩=false:=(hgrow.frozen_far ⟨S,2,none⟩ (by simp;omega) hlo).trans ((((KL w4.heap.size w4).alloc (KK _) _).frozen (show S<w4.heap.size by omega)).trans f4))
   |(go_simp;go_at_call 96;refine(HC.o _ ?_).mono ?_;(first|exact(KL _ _).drew|exact KL _ _);rintro e w4 ⟨aU,nU,cU,vN',rfl,h4,hP4,hy4,hS4,hN4,Ns,d4,f4,hO4,z4⟩;have n4:w4.heap.size≠S:=(by omega);have n4':S<w4.heap.size:=(by omega)))
  all_goals(
   have g5S:w5.heap[S]?=some (.cells #[.slice aR LR.length cR,.slice aO LO.length cO,.slice aI LI.length cI,.slice aU' LU.length cU',vN'] 133 (0,0)):=(hgrow.block S (by simp;omega) hlo).trans ((bp _ _ _ n4').trans hS4);have hst:∀T,197≠T->133≠T->au T S w4 (w5.setCell ⟨S,2,none⟩ (Value.slice (some ⟨g,0,none⟩) (LI.length+1) cap)):=fun T h1 h2=>((au.alloc _).trans (au.grown hgrow (hO4.alloc _) rfl h1)).trans (au.setT g5S h2 2 (Value.slice (some ⟨g,0,none⟩) (LI.length+1) cap));have hin:ip S w4 (w5.setCell ⟨S,2,none⟩ (Value.slice (some ⟨g,0,none⟩) (LI.length+1) cap)):=⟨hst _ (by decide) (by decide),hst _ (by decide) (by decide),hst _ (by decide) (by decide),hst _ (by decide) (by decide),hst _ (by decide) (by decide)⟩;have hiy:ip S w1 w4:=hy4.inner;have hsy:∀T,T≠193->T≠133->T≠152->197≠T->au T S w1 (w5.setCell ⟨S,2,none⟩ (Value.slice (some ⟨g,0,none⟩) (LI.length+1) cap)):=fun T h1 h2 h3 h4=>(hy4.stay h1 h2 h3).trans (hst T h4 (fun e=>h2 e.symm));have gS:=((h4.alloc _).grown' hgrow NF Of).set (F:=S) (by omega) (by omega) 2 (Value.slice (some ⟨g,0,none⟩) (LI.length+1) cap);have gP:=((hP4.alloc _).grown' hgrow Nz).set g5S (by decide) 2 (Value.slice (some ⟨g,0,none⟩) (LI.length+1) cap);have gJ:dk (w5.setCell ⟨S,2,none⟩ (Value.slice (some ⟨g,0,none⟩) (LI.length+1) cap)) S 197 2 (Value.slice (some ⟨g,0,none⟩) (LI.length+1) cap) sD (gl S) (LI++[((⟨en,el.1⟩:bC),Value.slice aU nU cU)]):=⟨by rw[Lb,List.flatMap_append];exact dO LV (au.setT g5S (by decide) 2 (Value.slice (some ⟨g,0,none⟩) (LI.length+1) cap)),fun x hx=>by
    rcases List.mem_append.1 hx with hx|hx
    ·exact gl.stays hin (gl.stays hiy (HI1.o.ok x hx))
    ·rw[List.mem_singleton]at hx;subst hx;exact gl.stays hin Ns⟩
   have gvR:=HR1.o.stays (hsy 154 (by decide) (by decide) (by decide) (by decide)) (fun x hx=>gj.stays hin (gj.stays hiy hx));have gvO:=HO1.o.stays (hsy 163 (by decide) (by decide) (by decide) (by decide)) (fun x hx=>gb.stays hin (gb.stays hiy hx));have gvU:=HU1.o.stays (hsy 200 (by decide) (by decide) (by decide) (by decide)) (fun x hx=>gc.stays hin (gc.stays hiy hx));have gN:=dO hN4 (hst 152 (by decide) (by decide));have gL:=((HL1.o.trans hy4.lo).trans ((Lo.of_below ((KL w4.heap.size w4).alloc (KK _) _)).trans (Lo.of_grown hgrow hrd))).set (KK S) 2 (Value.slice (some ⟨g,0,none⟩) (LI.length+1) cap);have HX:=aa (show PS _ b G FF.2/\PP _ p b S/\jx _ S FF.1/\Lo b S w _ from⟨by rw[HQ.o];exact gS,gP,by rw[HQ.o];exact⟨(.slice aR LR.length cR),(.slice aO LO.length cO),(Value.slice (some ⟨g,0,none⟩) (LI.length+1) cap),(.slice aU' LU.length cU'),vN',LR,LO,(LI++[((⟨en,el.1⟩:bC),Value.slice aU nU cU)]),LU,aJ g5S 2 (Value.slice (some ⟨g,0,none⟩) (LI.length+1) cap),gvR,gvO,gJ,gvU,gN,HMR.o,HMO.o,by rw[Lr,HMI.o];rfl,HMU.o⟩,gL⟩);clear gS gP gJ gN gvR gvO gvU hst hin hiy hsy g5S LV hgrow h4 hP4 hy4 hS4 hN4 Ns hO4;go_wp2_with fail;go_end0;exact⟨rfl,HX.o⟩)
 by_cases e4:nm s=pA
 ·skip
  have HQ:=aa (show bX c s=({c with uns:=c.uns++[⟨nm (ab s),(fM (ab (ab s))).1⟩],names:=c.names++[nm (ab s)]},(fM (ab (ab s))).2)from by unfold bX;rw[K8 e1,K8 e2,K8 e3,K9 e4]);rw[KT (show¬nm s=aE _ from e1)]at L1;rw[KT (show¬nm s=aE _ from e2)]at L2;rw[KT (show¬nm s=aE _ from e3)]at L3;rw[Le (show nm s=aE _ from e4)]at L4;clear e1 e2 e3 e4;generalize bX c s=FF at*;generalize nm s=n0 at*;generalize ab s=s1 at*;have hcl:=fun W (vR vO vI vU vN:Value) (names:List Ls) (hP:PP W p b S) (h:PS W b G s1) (hS:SC W S vR vO vI vU vN) (hN:W.ownsRow S 152 1 vN names.length (bt names)) (hnl:names.length<=100000)=>JF (⟨hP,h,⟨vN,hS,hN⟩,hbS,hGS,hnl⟩:DC W p b S G s1 vR vO vI vU names);generalize nm s1=en at*;generalize fM (ab s1)=el at*;go_enter func53,ntmps53;go_wp2_with fail;refine hc.mono ?_;clear hc;rintro e w1 ⟨rfl,h1,k1⟩;have hy1:bP b S w w1:=bP.of_keep k1 H0.o.ty.choose_spec;have hst:∀T,T≠193->au T S w w1:=fun T hT=>H0.o.stay k1 hT;have Mx:ip S w w1:=⟨hst _ (by decide),hst _ (by decide),hst _ (by decide),hst _ (by decide),hst _ (by decide)⟩;have HS1:=aa (k1.at HS0.o (by omega));have HR1:=aa (HR0.o.stays (hst _ (by decide)) (fun x hx=>gj.stays Mx hx));have HO1:=aa (HO0.o.stays (hst _ (by decide)) (fun x hx=>gb.stays Mx hx));have HI1:=aa (HI0.o.stays (hst _ (by decide)) (fun x hx=>gl.stays Mx hx));have HU1:=aa (HU0.o.stays (hst _ (by decide)) (fun x hx=>gc.stays Mx hx));have HN1:=aa (dO HN0.o (hst _ (by decide)));have HP1:=aa (HP0.o.keep H0.o k1);have H1:=aa (show PS w1 b G s1 from h1);have HL1:=aa (Lo.of_keep (S:=S) k1);clear h1 k1 hy1 hst Mx H0 HP0 HS0 HR0 HO0 HI0 HU0 HN0;have zw1:=ag HS1.o;have zp1:=HP1.o.lt;have dA:w1.cell? ⟨S,3,none⟩=some (.slice aU' LU.length cU'):=ae HS1.o 3;have fA:=ar HS1.o 3;have HC:=aa (show∀W,Lt w1 W->Calls prog 97 #[.pointer (some ⟨p,0,none⟩)] W fun e w'=>∃aU nU cU vN',e=.returned (.agg #[.string en,.slice aU nU cU])/\PS w' b G el.2/\PP w' p b S/\bP b S w1 w'/\w'.heap[S]?=some (.cells #[.slice aR LR.length cR,.slice aO LO.length cO,.slice aI LI.length cI,.slice aU' LU.length cU',vN'] 133 (0,0))/\w'.ownsRow S 152 1 vN' (c.names++[en]).length (bt (c.names++[en]))/\gc S w' ((⟨en,el.1⟩:bB),Value.slice aU nU cU)/\w'.cell? ⟨S,3,none⟩=some (Value.slice aU' LU.length cU')/\w'.frozen? ⟨S,3,none⟩=false/\w'.ownsRow S 200 2 (Value.slice aU' LU.length cU') LU.length (LU.flatMap tT)/\w1.heap.size<=w'.heap.size from fun W hW=>(hcl W _ _ _ _ vN c.names (HP1.o.below hW) (H1.o.below hW) ((hW.block S zw1).trans HS1.o) (bZ HN1.o hW) hnl).mono (by
   rintro e w' ⟨vF,a1,t1,t2,dp⟩;obtain⟨aU,cU,rfl⟩:=bc t1;obtain⟨a2,a7,a8,vN',hS',hN'⟩:=dp;have a9:bP b S w1 w':=(bP.of_below hW).trans a8;exact⟨aU,_,cU,vN',a1,a2,a7,a9,hS',hN',⟨iJ t1 (by have:=hW.size;omega),t2⟩,ae hS' 3,ar hS' 3,dO HU1.o.own (a9.stay (by decide) (by decide) (by decide)),a9.size⟩))
  have hlo:Option.some S≠(Value.slice aU' LU.length cU').ownBlock:=jP HU1.o.own HS1.o (by decide);have hrd:∀k,(Value.slice aU' LU.length cU').ownBlock=some k->S<=k:=fun k hk=>(HU1.o.own.lt k hk).1;have NF:Option.some b≠(Value.slice aU' LU.length cU').ownBlock:=fun e=>by have:=hrd b e.symm;omega
  have Of:Option.some G≠(Value.slice aU' LU.length cU').ownBlock:=fun e=>by have:=hrd G e.symm;omega
  have Nz:Option.some p≠(Value.slice aU' LU.length cU').ownBlock:=jP HU1.o.own HP1.o (by decide);obtain⟨i0,hi,hz0,hz1,hz2⟩:=info_parts info200;clear hcl;go_wp2_with fail;go_region_law (first
   |(refine step_append_lies _ (by rfl) _ _ _ (by rfl) S 200 i0 _ 2 40 underlying130 hi hz0 hz1 hz2 rfl (by decide) _ _ _ (by rfl) (hO4.alloc _) ⟨w4.heap.size,0,none⟩ 1 1 [.string en,.slice aU nU cU] (by rfl) (by rfl) (de _ _ _ _ (by simp)) (pZ rfl rfl) (by decide) (by unfold maxLen;omega) (by omega) (by simp;omega) (w4.heap.size+1) (by simp) ?_;intro g cap w5 LV hgrow hat hg5;have e5:w5.cell? ⟨S,3,none⟩=some (Value.slice aU' LU.length cU'):=(hgrow.cell_far ⟨S,3,none⟩ (by simp;omega) hlo).trans ((((KL w4.heap.size w4).alloc (KK _) _).cell (show S<w4.heap.size by omega)).trans d4);have f5:w5.frozen? ⟨S,3,none⟩=false:=(hgrow.frozen_far ⟨S,3,none⟩ (by simp;omega) hlo).trans ((((KL w4.heap.size w4).alloc (KK _) _).frozen (show S<w4.heap.size by omega)).trans f4))
   |(go_simp;go_at_call 97;refine(HC.o _ ?_).mono ?_;(first|exact(KL _ _).drew|exact KL _ _);rintro e w4 ⟨aU,nU,cU,vN',rfl,h4,hP4,hy4,hS4,hN4,Ns,d4,f4,hO4,z4⟩;have n4:w4.heap.size≠S:=(by omega);have n4':S<w4.heap.size:=(by omega)))
  all_goals(
   have g5S:w5.heap[S]?=some (.cells #[.slice aR LR.length cR,.slice aO LO.length cO,.slice aI LI.length cI,.slice aU' LU.length cU',vN'] 133 (0,0)):=(hgrow.block S (by simp;omega) hlo).trans ((bp _ _ _ n4').trans hS4);have hst:∀T,200≠T->133≠T->au T S w4 (w5.setCell ⟨S,3,none⟩ (Value.slice (some ⟨g,0,none⟩) (LU.length+1) cap)):=fun T h1 h2=>((au.alloc _).trans (au.grown hgrow (hO4.alloc _) rfl h1)).trans (au.setT g5S h2 3 (Value.slice (some ⟨g,0,none⟩) (LU.length+1) cap));have hin:ip S w4 (w5.setCell ⟨S,3,none⟩ (Value.slice (some ⟨g,0,none⟩) (LU.length+1) cap)):=⟨hst _ (by decide) (by decide),hst _ (by decide) (by decide),hst _ (by decide) (by decide),hst _ (by decide) (by decide),hst _ (by decide) (by decide)⟩;have hiy:ip S w1 w4:=hy4.inner;have hsy:∀T,T≠193->T≠133->T≠152->200≠T->au T S w1 (w5.setCell ⟨S,3,none⟩ (Value.slice (some ⟨g,0,none⟩) (LU.length+1) cap)):=fun T h1 h2 h3 h4=>(hy4.stay h1 h2 h3).trans (hst T h4 (fun e=>h2 e.symm));have gS:=((h4.alloc _).grown' hgrow NF Of).set (F:=S) (by omega) (by omega) 3 (Value.slice (some ⟨g,0,none⟩) (LU.length+1) cap);have gP:=((hP4.alloc _).grown' hgrow Nz).set g5S (by decide) 3 (Value.slice (some ⟨g,0,none⟩) (LU.length+1) cap);have gJ:dk (w5.setCell ⟨S,3,none⟩ (Value.slice (some ⟨g,0,none⟩) (LU.length+1) cap)) S 200 2 (Value.slice (some ⟨g,0,none⟩) (LU.length+1) cap) tT (gc S) (LU++[((⟨en,el.1⟩:bB),Value.slice aU nU cU)]):=⟨by rw[Lb,List.flatMap_append];exact dO LV (au.setT g5S (by decide) 3 (Value.slice (some ⟨g,0,none⟩) (LU.length+1) cap)),fun x hx=>by
    rcases List.mem_append.1 hx with hx|hx
    ·exact gc.stays hin (gc.stays hiy (HU1.o.ok x hx))
    ·rw[List.mem_singleton]at hx;subst hx;exact gc.stays hin Ns⟩
   have gvR:=HR1.o.stays (hsy 154 (by decide) (by decide) (by decide) (by decide)) (fun x hx=>gj.stays hin (gj.stays hiy hx));have gvO:=HO1.o.stays (hsy 163 (by decide) (by decide) (by decide) (by decide)) (fun x hx=>gb.stays hin (gb.stays hiy hx));have gvI:=HI1.o.stays (hsy 197 (by decide) (by decide) (by decide) (by decide)) (fun x hx=>gl.stays hin (gl.stays hiy hx));have gN:=dO hN4 (hst 152 (by decide) (by decide));have gL:=((HL1.o.trans hy4.lo).trans ((Lo.of_below ((KL w4.heap.size w4).alloc (KK _) _)).trans (Lo.of_grown hgrow hrd))).set (KK S) 3 (Value.slice (some ⟨g,0,none⟩) (LU.length+1) cap);have HX:=aa (show PS _ b G FF.2/\PP _ p b S/\jx _ S FF.1/\Lo b S w _ from⟨by rw[HQ.o];exact gS,gP,by rw[HQ.o];exact⟨(.slice aR LR.length cR),(.slice aO LO.length cO),(.slice aI LI.length cI),(Value.slice (some ⟨g,0,none⟩) (LU.length+1) cap),vN',LR,LO,LI,(LU++[((⟨en,el.1⟩:bB),Value.slice aU nU cU)]),aJ g5S 3 (Value.slice (some ⟨g,0,none⟩) (LU.length+1) cap),gvR,gvO,gvI,gJ,gN,HMR.o,HMO.o,HMI.o,by rw[Lr,HMU.o];rfl⟩,gL⟩);clear gS gP gJ gN gvR gvO gvI hst hin hiy hsy g5S LV hgrow h4 hP4 hy4 hS4 hN4 Ns hO4;go_wp2_with fail;go_end0;exact⟨rfl,HX.o⟩)
 rw[show bX c s=(c,none)from by unfold bX;rw[K8 e1,K8 e2,K8 e3,K8 e4]];rw[KT (show¬nm s=aE _ from e1)]at L1;rw[KT (show¬nm s=aE _ from e2)]at L2;rw[KT (show¬nm s=aE _ from e3)]at L3;rw[KT (show¬nm s=aE _ from e4)]at L4;clear e1 e2 e3 e4;generalize nm s=n0 at*;generalize ab s=s1 at*;go_enter func53,ntmps53;go_wp2_with fail;refine hc.mono ?_;clear hc;rintro e w1 ⟨rfl,h1,k1⟩;have HP1:=aa (HP0.o.keep H0.o k1);have c1:=HP1.o.c0;have hf:=mt w1 b G s1 h1;have H1:=aa h1;have K1:=aa k1;clear h1 k1;go_wp2_with fail;refine hf.mono ?_;clear hf;rintro e w2 ⟨rfl,h2,k2⟩;have hk:=K1.o.trans k2;have hst:∀T,T≠193->au T S w w2:=fun T hT=>H0.o.stay hk hT;have Mx:ip S w w2:=⟨hst _ (by decide),hst _ (by decide),hst _ (by decide),hst _ (by decide),hst _ (by decide)⟩;have HX:=aa (show PS w2 b G none/\PP w2 p b S/\jx w2 S c/\Lo b S w w2 from⟨h2,HP1.o.keep H1.o k2,(show jx w2 S c from⟨_,_,_,_,vN,LR,LO,LI,LU,hk.at HS0.o (by omega),HR0.o.stays (hst _ (by decide)) (fun x hx=>gj.stays Mx hx),HO0.o.stays (hst _ (by decide)) (fun x hx=>gb.stays Mx hx),HI0.o.stays (hst _ (by decide)) (fun x hx=>gl.stays Mx hx),HU0.o.stays (hst _ (by decide)) (fun x hx=>gc.stays Mx hx),dO HN0.o (hst _ (by decide)),HMR.o,HMO.o,HMI.o,HMU.o⟩),Lo.of_keep hk⟩);clear h2 k2 hk hst Mx;go_wp2_with fail;go_end0;exact⟨rfl,HX.o⟩
theorem zZ:∀(f:Nat) (s:St),ln (eH f s).2<=ln s
 |0,s=>KK _
 |f+1,s=>by
  rw[eH];split
  ·exact KP (zZ f _) (bH s)
  ·exact KK _
theorem Ee(s:St):ln (fB s).2<=ln s:=by
 unfold fB;split
 ·unfold mq
  simp only[];split
  ·simp[ln]
  ·exact KP (zZ _ _) (KP (cK _) (bH s))
 ·exact bH s
theorem qN(s:St):ln (dH s).2<=ln s:=by
 unfold dH;split
 ·exact KP (yX _ _) (KP (bH _) (cK s))
 ·exact KK _
theorem ss(s:St):ln (ey s).2<=ln s:=by
 unfold ey;split
 ·refine KP (cg _ _) (KP (ut _ _ (ut _ _ (pj _)) _) ?_)
  unfold ed;exact KP (cg _ _) (KP (cg _ _) (cK s))
 ·exact KK _
theorem JU(s:St):ln (cn s).2<=ln s:=by
 unfold cn;dsimp only;exact KP (oz _) (KP (ss _) (KP (qN _) (bH s)))
theorem yH:∀(f:Nat) (s:St),ln (eS f s).2<=ln s
 |0,s=>KK _
 |f+1,s=>by
  rw[eS];split
  ·exact KP (yH f _) (KP (bH _) (cK s))
  ·exact KK _
theorem C5(s:St):ln (fM s).2<=ln s:=by
 unfold fM;exact KP (yH _ _) (KP (bH _) (cg _ _))
theorem oF(c:b9)(s:St):ln (bX c s).2<=ln (ab s):=by
 unfold bX;split
 ·dsimp only
  exact Ee _
 ·split
  ·dsimp only
   exact JU _
  ·split
   ·dsimp only
    exact KP (oz _) (bH _)
   ·split
    ·dsimp only
     exact KP (C5 _) (bH _)
    ·exact KU _
def nK(c:b9)(n:Nat):Prop:=c.Lu.length<=n/\c.Lx.length<=n/\c.ifs.length<=n/\c.uns.length<=n/\c.names.length<=n
theorem Bl(c:b9)(s:St)(n:Nat)(h:nK c n):nK (bX c s).1 (n+1):=by
 obtain⟨h1,h2,h3,h4,h5⟩:=h;unfold bX nK;split
 ·refine⟨?_,?_,?_,?_,?_⟩<;>simp<;>omega
 ·split
  ·refine⟨?_,?_,?_,?_,?_⟩<;>simp<;>omega
  ·split
   ·refine⟨?_,?_,?_,?_,?_⟩<;>simp<;>omega
   ·split
    ·refine⟨?_,?_,?_,?_,?_⟩<;>simp<;>omega
    ·refine⟨?_,?_,?_,?_,?_⟩<;>simp only[]<;>omega
def gH:Nat->b9->St->b9×St
 |0,c,s=>(c,s)
 |f+1,c,s=>if eu s=true then(c,s)else gH f (bX c s).1 (bX c s).2
def d8:b9:=⟨[],[],[],[],[]⟩
def cc(s:St):b9×St:=gH 801 (bX d8 s).1 (bX d8 s).2
theorem AA(f:Nat)(c:b9)(s:St)(h:eu s=true):gH f c s=(c,s):=by
 cases f with
 |zero=>rfl
 |succ f=>rw[gH,K9 h]
theorem zh(s:St)(h:eu s=false):s.isNone=false:=by
 match s,h with
 |some l,_=>rfl
theorem jx.below{w w':World}{S:Nat}{c:b9}(h:jx w S c)(hb:Lt w w'):jx w' S c:=by
 obtain⟨vR,vO,vI,vU,vN,LR,LO,LI,LU,hS,hR,hO,hI,hU,hN,m⟩:=h.ex;have hin:ip S w w':=(bP.of_below (b:=0) (S:=0) hb).inner;exact⟨vR,vO,vI,vU,vN,LR,LO,LI,LU,(hb.block S (ag hS)).trans hS,hR.stays (au.of_below hb) (fun x hx=>gj.stays hin hx),hO.stays (au.of_below hb) (fun x hx=>gb.stays hin hx),hI.stays (au.of_below hb) (fun x hx=>gl.stays hin hx),hU.stays (au.of_below hb) (fun x hx=>gc.stays hin hx),bZ hN hb,m⟩
theorem dk.nil{β:Type}(w:World)(B e size:Nat)(flat:β->List Value)(ok:World->β->Prop):dk w B e size (.slice none 0 0) flat ok []:=⟨K7 _ _ _ _,fun x hx=>by cases hx⟩
theorem FX(x:Ls)(w:World)(hs:x.size<=maxLen):
 Calls prog 31 #[.string x] w fun e w'=>∃S,e=.returned (.tuple #[.pointer (some ⟨S,0,none⟩),.bool (jW (cc (av x)).2)])/\jx w' S (cc (av x)).1/\nK (cc (av x)).1 804/\Lt w w':=by
 have hc:=yg x w hs;have HQ:=aa (show cc (av x)=gH 801 (bX d8 (av x)).1 (bX d8 (av x)).2 from rfl);generalize cc (av x)=FF at*;generalize av x=s0 at*;go_enter func31,ntmps31;go_wp2_with fail;refine hc.mono ?_;clear hc;rintro e w1 ⟨b,G,rfl,hb,h1,hB⟩;have hlt:=h1.lt;have hgl:=h1.glt;have h2:=h1.below (di w1 (.cells #[.slice none 0 0,.slice none 0 0,.slice none 0 0,.slice none 0 0,.slice none 0 0] 133) (.cells #[.pointer (some ⟨b,0,none⟩),.pointer (some ⟨w1.heap.size,0,none⟩)] 135));have hS2:jx ((w1.alloc (.cells #[.slice none 0 0,.slice none 0 0,.slice none 0 0,.slice none 0 0,.slice none 0 0] 133)).alloc (.cells #[.pointer (some ⟨b,0,none⟩),.pointer (some ⟨w1.heap.size,0,none⟩)] 135)) w1.heap.size d8:=⟨_,_,_,_,_,[],[],[],[],ig _ _ _,dk.nil _ _ _ _ _ _,dk.nil _ _ _ _ _ _,dk.nil _ _ _ _ _ _,dk.nil _ _ _ _ _ _,K7 _ _ _ _,rfl,rfl,rfl,rfl⟩;have hP2:PP ((w1.alloc (.cells #[.slice none 0 0,.slice none 0 0,.slice none 0 0,.slice none 0 0,.slice none 0 0] 133)).alloc (.cells #[.pointer (some ⟨b,0,none⟩),.pointer (some ⟨w1.heap.size,0,none⟩)] 135)) (w1.heap.size+1) b w1.heap.size:=eo _ _ _;have hd:=BJ _ (w1.heap.size+1) b w1.heap.size G s0 d8 hP2 h2 hS2 hlt hgl (by decide) (by decide) (by decide) (by decide) (by decide);have hl2:=h1.len;have hld:=oF d8 s0;have hln:=bH s0;have Ou:=Bl d8 s0 0 ⟨KK _,KK _,KK _,KK _,KK _⟩;have HLE:=aa Ou;have HB0:=aa (hB.trans ((di w1 (.cells #[.slice none 0 0,.slice none 0 0,.slice none 0 0,.slice none 0 0,.slice none 0 0] 133) (.cells #[.pointer (some ⟨b,0,none⟩),.pointer (some ⟨w1.heap.size,0,none⟩)] 135)).mono hB.size));have hws:=hB.size;clear h1 h2 hS2 hP2 hB Ou;generalize bX d8 s0=cs at*;obtain⟨c1,s1⟩:=cs;simp only[]at hd HLE HQ hld;go_wp2_with fail;refine hd.mono ?_;clear hd;rintro e w2 ⟨rfl,h2,hP2,hS2,hL2⟩;have HB2:=aa (HB0.o.trans (hL2.below hb hws HB0.o.size));clear hL2 HB0;go_wp2_with fail;go_loopg [] (ln s1) (fun k wr=>∃(c:b9) (s':St) (f m:Nat),ln s'<=k/\ln s'<=f/\PS wr b G s'/\PP wr (w1.heap.size+1) b w1.heap.size/\jx wr w1.heap.size c/\nK c m/\m+ln s'<=804/\Lt w wr/\gH 801 c1 s1=gH f c s')
 case atStart=>exact⟨c1,s1,801,1,KK _,by omega,h2,hP2,hS2,HLE.o,by omega,HB2.o,rfl⟩
 case round=>
  clear h2 hP2 hS2 HLE;obtain⟨c,s',f,m,hlk,hlf,h3,hP3,hS3,hlm,hm,hbw,hrel⟩:=hrel;have HBW:=aa hbw;clear hbw HB2;have HM:=aa hrel;have H3:=aa h3;have HP3:=aa hP3;have HS3:=aa hS3;have HLM:=aa hlm;have c3:=hP3.c0;have c3':=hP3.c1;have hc:=pc wr b G s' h3;clear h3 hP3 hS3 hlm hrel;cases hx:eu s'
  ·rw[hx]at hc
   have hl1:=lg s' (zh s' hx);have hl2':=oF c s';obtain⟨f',rfl⟩:∃f',f=f'+1:=⟨f-1,by omega⟩;have HE:=aa (show gH 801 c1 s1=gH f' (bX c s').1 (bX c s').2 from by rw[HM.o,gH,K8 (by rw[hx];simp)]);have hlm:=HLM.o;have hd:=BJ wr (w1.heap.size+1) b w1.heap.size G s' c HP3.o H3.o HS3.o hlt hgl (KP hlm.1 (by omega)) (KP hlm.2.1 (by omega)) (KP hlm.2.2.1 (by omega)) (KP hlm.2.2.2.1 (by omega)) (KP hlm.2.2.2.2 (by omega));have HLD:=aa (Bl c s' m hlm);clear hx HM hlm;generalize bX c s'=cs at*;obtain⟨c2,s2⟩:=cs;simp only[]at hd HLD HE hl2';go_wp2_with fail;refine hc.mono ?_;clear hc;rintro e w3 ⟨rfl,hw3⟩;have hw3:=hw3.symm;subst hw3;go_wp2_with fail;refine hd.mono ?_;clear hd;rintro e w4 ⟨rfl,h4,hP4,hS4,hL4⟩;have HX:=aa (And.intro h4 (And.intro hP4 (And.intro hS4 (HBW.o.trans (hL4.below hb hws HBW.o.size)))));clear h4 hP4 hS4 hL4;go_wp2_with fail;go_roundg (ln s2)
   case measure=>omega
   case rel=>exact⟨c2,s2,f',m+1,KK _,by omega,HX.o.1,HX.o.2.1,HX.o.2.2.1,HLD.o,by omega,HX.o.2.2.2,HE.o⟩
  ·rw[hx]at hc
   have HE:=aa (show FF=(c,s')from by rw[HQ.o,HM.o,AA _ _ _ hx]);have HL:=aa (show nK c 804 from⟨KP HLM.o.1 (by omega),KP HLM.o.2.1 (by omega),KP HLM.o.2.2.1 (by omega),KP HLM.o.2.2.2.1 (by omega),KP HLM.o.2.2.2.2 (by omega)⟩);clear hx HM HQ HLM;go_wp2_with fail;refine hc.mono ?_;clear hc;rintro e w3 ⟨rfl,hw3⟩;have hw3:=hw3.symm;subst hw3;have HC:=aa (fun(W:World) (hW:Lt wr W)=>CR W b G s' (H3.o.below hW));go_wp2_with fail;go_region_with (go_at_call 55;refine(HC.o _ ?_).mono ?_;(first|exact(KL _ _).drew|exact KL _ _);rintro e w4 ⟨rfl,rfl⟩);all_goals(
    go_wp2_with fail;go_ret2;rw[HE.o];exact⟨_,rfl,by first|exact HS3.o.below (KL _ _).drew|exact HS3.o,HL.o,by first|exact HBW.o.drew|exact HBW.o⟩)
def fJ(w:World)(v:Value)(size:Nat)(l:List Ls):Prop:=∃a cap,v=.slice a l.length cap/\(l=[]\/∃g,a=some ⟨g,0,none⟩/\∀(j:Nat) (x:Ls),l[j]?=some x->w.cell? ⟨g,j*size,none⟩=some (.string x)/\∀k,0<k->k<size->∃u,w.cell? ⟨g,j*size+k,none⟩=some u)
theorem fJ.below{w w':World}{v:Value}{size:Nat}{l:List Ls}(h:fJ w v size l)(hb:Lt w w'):fJ w' v size l:=by
 obtain⟨a,cap,h1,h3⟩:=h;refine⟨a,cap,h1,?_⟩;rcases h3 with h3|⟨g,h3,h4⟩
 ·exact Or.inl h3
 ·refine Or.inr ⟨g,h3,fun j x hj=>?_⟩
  obtain⟨c0,cs⟩:=h4 j x hj;exact⟨ao hb c0,fun k h1 h2=>by obtain⟨u,hu⟩:=cs k h1 h2;exact⟨u,ao hb hu⟩⟩
theorem nO(w:World)(n:Ls):
 Calls prog 236 #[.agg #[.string n]] w fun e w'=>e=.returned (.string n)/\Lt w w':=by
 go_enter func236,ntmps236;go_wp2_with fail;go_ret;exact⟨rfl,(KL _ _).alloc (KK _) _⟩
theorem World.size_alloc_drew(w:World)(o:Obj):(w.alloc o).drew.heap.size=w.heap.size+1:=by
 show(w.alloc o).heap.size=_;simp
def bx(v:Value)(size:Nat)(q:Int):Value:=
 if q<0 then .pointer none else match v with
  | .slice (some a) _ _=>.pointer (some ⟨a.block,q.toNat*size,none⟩)
  |_=>.pointer none
theorem yp:∀(l:List Ls) (x:Ls) (n:Nat), -1<=dK l x n/\dK l x n<n+l.length
 |[],_,n=>⟨by simp[dK],by simp[dK];omega⟩
 |y::l,x,n=>by
  rw[dK];split
  ·simp;omega
  ·have:=yp l x (n+1)
   simp at*;omega
theorem l8(l:List Ls)(x:Ls): -1<=ah l x/\ah l x<l.length:=by
 have:=yp l x 0;unfold ah;simpa using this
theorem Bi(n:Ls)(u1:Value)(W:World):Sem.run prog (method 416 154 (.agg #[.string n,u1]) "veil/schemas.called") W=.ok (236,.agg #[.string n]) W:=by kernel_rfl
theorem EB(w:World)(Z:Nat)(x n:Ls)(u1:Value)(hz:w.cell? ⟨Z,0,none⟩=some (.string x)):
 Calls prog 204 #[.agg #[.string n,u1],.pointer (some ⟨Z,0,none⟩)] w fun e w'=>e=.returned (.bool (n.toList==x.toList))/\Lt w w':=by
 have hzl:=KQ w _ hz;simp only at hzl;have HC:=aa (fun W=>nO W n);have Na:=fun W=>Bi n u1 W;go_enter func204,ntmps204;go_wp2_with fail;have hz2:(w.alloc (.cells #[.string n,u1] 154)).cell? ⟨Z,0,none⟩=some (.string x):=ao ((KL _ _).alloc (KK _) _) hz;go_region_with (go_at_call 236;refine(HC.o _).mono ?_;rintro e w1 ⟨rfl,hb1⟩;have hz3:w1.cell? ⟨Z,0,none⟩=some (.string x):=(hb1.cell (by simp;omega)).trans hz2);all_goals(
  go_wp2_with fail;go_ret;exact⟨rfl,(((KL w.heap.size w).alloc (KK _) (.cells #[.string n,u1] 154)).drew).trans (hb1.mono (by have:=World.size_alloc_drew w (.cells #[.string n,u1] 154);omega))⟩)
theorem H9(w:World)(v:Value)(Z:Nat)(x:Ls)(l:List Ls)(h:fJ w v 2 l)(hl:l.length<=100000)(hz:w.cell? ⟨Z,0,none⟩=some (.string x)):
 Calls prog 203 #[v,.func (Fn.func 204) #[] #[.pointer (some ⟨Z,0,none⟩)]] w fun e w'=>e=.returned (.int .i64 (ah l x))/\Lt w w':=by
 have H0:=aa h;have HZ:=aa hz;obtain⟨a,cap,rfl,_⟩:=h;have hzl:=KQ w _ hz;simp only at hzl;generalize hq:ah l x=q;have HQ:=aa hq;clear hq hz;go_enter func203,ntmps203;go_wp2_with fail;go_loopg [5,8] l.length (fun m v5 v8 wr=>∃k:Nat,v8=.int .i64 k/\k<=l.length/\l.length-k<=m/\Lt w wr/\∀y∈l.take k,y≠x)
 case atStart=>exact⟨0,rfl,KU _,by omega,KL _ _,by simp⟩
 case round=>
  obtain⟨k,rfl,hk,hm,hb,hc⟩:=hrel;have HC:=aa hc;clear hc;have hz:=ao hb HZ.o;by_cases hlt:k<l.length
  ·obtain⟨a',LM,e1,h3⟩:=H0.o.below hb
   cases e1;obtain⟨g,ha,h4⟩:∃g,a=some ⟨g,0,none⟩/\∀(j:Nat) (x:Ls),l[j]?=some x->wr.cell? ⟨g,j*2,none⟩=some (.string x)/\∀k,0<k->k<2->∃u,wr.cell? ⟨g,j*2+k,none⟩=some u:=by
    rcases h3 with e|e
    ·rw[e]at hlt;simp at hlt
    ·exact e
   subst ha;have hx:=KM hlt;obtain⟨LQ,LW⟩:=h4 k _ hx;obtain⟨u1,hu1⟩:=LW 1 (by decide) (by decide);have HX:=aa hx;clear h4 hx LW h3;generalize l[k]=y at*;have hcl:=EB wr Z x y u1 hz;cases hy:(y.toList==x.toList)
   ·rw[hy]at hcl
    have HY:=aa hy;clear hy;go_wp2_with fail;refine hcl.mono ?_;clear hcl;rintro e w1 ⟨rfl,hb1⟩;have hbb:=hb.trans (hb1.mono hb.size);clear hb1;go_wp2_with fail;go_roundg (l.length-(k+1))
    case measure=>omega
    case rel=>exact⟨k+1,by go_num,by omega,KK _,hbb,by
     rw[Ld,HX.o];intro z hz;rcases List.mem_append.1 hz with hz|hz
     ·exact HC.o z hz
     ·simp at hz;subst hz;have:=HY.o;rw[bY]at this;simpa using this⟩
   ·rw[hy]at hcl
    have HY:=aa hy;clear hy;go_wp2_with fail;refine hcl.mono ?_;clear hcl;rintro e w1 ⟨rfl,hb1⟩;have hbb:=hb.trans (hb1.mono hb.size);clear hb1;go_wp2_with fail;go_ret;exact⟨dx (by rw[<-HQ.o];have hy:=HY.o;rw[bY]at hy;simp only[Lc]at hy;subst hy;unfold ah;rw[lj l y 0 k HC.o HX.o];simp),hbb⟩
  ·go_wp2_with fail
   go_ret;exact⟨dx (by
    rw[<-HQ.o];have:=HC.o;rw[KW (by omega)]at this;unfold ah;rw[lG l x 0 this]),hb⟩
theorem Hn(w:World)(v:Value)(x:Ls)(l:List Ls)(h:fJ w v 2 l)(hl:l.length<=100000):
 Calls prog 177 #[v,.string x] w fun e w'=>e=.returned (bx v 2 (ah l x))/\Lt w w':=by
 have hc:=H9 (w.alloc (.cells #[.string x] 9)) v w.heap.size x l (h.below ((KL _ _).alloc (KK _) _)) hl (by simp);have hbd:=l8 l x;obtain⟨a,cap,rfl,h3⟩:=h;generalize ah l x=q at*;by_cases hq:q<0
 ·rw[show bx (.slice a l.length cap) 2 q=.pointer none from by unfold bx;rw[K9 hq]]
  go_enter func177,ntmps177;go_wp2_with fail;refine hc.mono ?_;clear hc;rintro e w1 ⟨rfl,hb1⟩;go_wp2_with fail;go_ret;exact⟨rfl,((KL _ _).alloc (KK _) _).trans (hb1.mono (by simp))⟩
 ·obtain⟨k,rfl⟩:∃k:Nat,q=k:=⟨q.toNat,by omega⟩
  have hkl:k<l.length:=by omega
  obtain⟨g,ha⟩:∃g,a=some ⟨g,0,none⟩:=by
   rcases h3 with e|⟨g,e,_⟩
   ·rw[e]at hkl;simp at hkl
   ·exact⟨g,e⟩
  subst ha;rw[show bx (.slice (some ⟨g,0,none⟩) l.length cap) 2 (k:Int)=.pointer (some ⟨g,k*2,none⟩)from by unfold bx;rw[K8 hq];simp];clear h3;go_enter func177,ntmps177;go_wp2_with fail;refine hc.mono ?_;clear hc;rintro e w1 ⟨rfl,hb1⟩;go_wp2_with fail;go_ret;exact⟨rfl,((KL _ _).alloc (KK _) _).trans (hb1.mono (by simp))⟩
theorem FP(n:Ls)(u1 u2 u3:Value)(W:World):Sem.run prog (method 416 163 (.agg #[.string n,u1,u2,u3]) "veil/schemas.called") W=.ok (236,.agg #[.string n]) W:=by kernel_rfl
theorem KA(w:World)(Z:Nat)(x n:Ls)(u1 u2 u3:Value)(hz:w.cell? ⟨Z,0,none⟩=some (.string x)):
 Calls prog 180 #[.agg #[.string n,u1,u2,u3],.pointer (some ⟨Z,0,none⟩)] w fun e w'=>e=.returned (.bool (n.toList==x.toList))/\Lt w w':=by
 have hzl:=KQ w _ hz;simp only at hzl;have HC:=aa (fun W=>nO W n);have Na:=fun W=>FP n u1 u2 u3 W;go_enter func180,ntmps180;go_wp2_with fail;have hz2:(w.alloc (.cells #[.string n,u1,u2,u3] 163)).cell? ⟨Z,0,none⟩=some (.string x):=ao ((KL _ _).alloc (KK _) _) hz;go_region_with (go_at_call 236;refine(HC.o _).mono ?_;rintro e w1 ⟨rfl,hb1⟩;have hz3:w1.cell? ⟨Z,0,none⟩=some (.string x):=(hb1.cell (by simp;omega)).trans hz2);all_goals(
  go_wp2_with fail;go_ret;exact⟨rfl,(((KL w.heap.size w).alloc (KK _) (.cells #[.string n,u1,u2,u3] 163)).drew).trans (hb1.mono (by have:=World.size_alloc_drew w (.cells #[.string n,u1,u2,u3] 163);omega))⟩)
theorem FE(w:World)(v:Value)(Z:Nat)(x:Ls)(l:List Ls)(h:fJ w v 4 l)(hl:l.length<=100000)(hz:w.cell? ⟨Z,0,none⟩=some (.string x)):
 Calls prog 179 #[v,.func (Fn.func 180) #[] #[.pointer (some ⟨Z,0,none⟩)]] w fun e w'=>e=.returned (.int .i64 (ah l x))/\Lt w w':=by
 have H0:=aa h;have HZ:=aa hz;obtain⟨a,cap,rfl,_⟩:=h;have hzl:=KQ w _ hz;simp only at hzl;generalize hq:ah l x=q;have HQ:=aa hq;clear hq hz;go_enter func179,ntmps179;go_wp2_with fail;go_loopg [5,8] l.length (fun m v5 v8 wr=>∃k:Nat,v8=.int .i64 k/\k<=l.length/\l.length-k<=m/\Lt w wr/\∀y∈l.take k,y≠x)
 case atStart=>exact⟨0,rfl,KU _,by omega,KL _ _,by simp⟩
 case round=>
  obtain⟨k,rfl,hk,hm,hb,hc⟩:=hrel;have HC:=aa hc;clear hc;have hz:=ao hb HZ.o;by_cases hlt:k<l.length
  ·obtain⟨a',LM,e1,h3⟩:=H0.o.below hb
   cases e1;obtain⟨g,ha,h4⟩:∃g,a=some ⟨g,0,none⟩/\∀(j:Nat) (x:Ls),l[j]?=some x->wr.cell? ⟨g,j*4,none⟩=some (.string x)/\∀k,0<k->k<4->∃u,wr.cell? ⟨g,j*4+k,none⟩=some u:=by
    rcases h3 with e|e
    ·rw[e]at hlt;simp at hlt
    ·exact e
   subst ha;have hx:=KM hlt;obtain⟨LQ,LW⟩:=h4 k _ hx;obtain⟨u1,hu1⟩:=LW 1 (by decide) (by decide);obtain⟨u2,hu2⟩:=LW 2 (by decide) (by decide);obtain⟨u3,hu3⟩:=LW 3 (by decide) (by decide);have HX:=aa hx;clear h4 hx LW h3;generalize l[k]=y at*;have hcl:=KA wr Z x y u1 u2 u3 hz;cases hy:(y.toList==x.toList)
   ·rw[hy]at hcl
    have HY:=aa hy;clear hy;go_wp2_with fail;refine hcl.mono ?_;clear hcl;rintro e w1 ⟨rfl,hb1⟩;have hbb:=hb.trans (hb1.mono hb.size);clear hb1;go_wp2_with fail;go_roundg (l.length-(k+1))
    case measure=>omega
    case rel=>exact⟨k+1,by go_num,by omega,KK _,hbb,by
     rw[Ld,HX.o];intro z hz;rcases List.mem_append.1 hz with hz|hz
     ·exact HC.o z hz
     ·simp at hz;subst hz;have:=HY.o;rw[bY]at this;simpa using this⟩
   ·rw[hy]at hcl
    have HY:=aa hy;clear hy;go_wp2_with fail;refine hcl.mono ?_;clear hcl;rintro e w1 ⟨rfl,hb1⟩;have hbb:=hb.trans (hb1.mono hb.size);clear hb1;go_wp2_with fail;go_ret;exact⟨dx (by rw[<-HQ.o];have hy:=HY.o;rw[bY]at hy;simp only[Lc]at hy;subst hy;unfold ah;rw[lj l y 0 k HC.o HX.o];simp),hbb⟩
  ·go_wp2_with fail
   go_ret;exact⟨dx (by
    rw[<-HQ.o];have:=HC.o;rw[KW (by omega)]at this;unfold ah;rw[lG l x 0 this]),hb⟩
theorem DH(w:World)(v:Value)(x:Ls)(l:List Ls)(h:fJ w v 4 l)(hl:l.length<=100000):
 Calls prog 145 #[v,.string x] w fun e w'=>e=.returned (bx v 4 (ah l x))/\Lt w w':=by
 have hc:=FE (w.alloc (.cells #[.string x] 9)) v w.heap.size x l (h.below ((KL _ _).alloc (KK _) _)) hl (by simp);have hbd:=l8 l x;obtain⟨a,cap,rfl,h3⟩:=h;generalize ah l x=q at*;by_cases hq:q<0
 ·rw[show bx (.slice a l.length cap) 4 q=.pointer none from by unfold bx;rw[K9 hq]]
  go_enter func145,ntmps145;go_wp2_with fail;refine hc.mono ?_;clear hc;rintro e w1 ⟨rfl,hb1⟩;go_wp2_with fail;go_ret;exact⟨rfl,((KL _ _).alloc (KK _) _).trans (hb1.mono (by simp))⟩
 ·obtain⟨k,rfl⟩:∃k:Nat,q=k:=⟨q.toNat,by omega⟩
  have hkl:k<l.length:=by omega
  obtain⟨g,ha⟩:∃g,a=some ⟨g,0,none⟩:=by
   rcases h3 with e|⟨g,e,_⟩
   ·rw[e]at hkl;simp at hkl
   ·exact⟨g,e⟩
  subst ha;rw[show bx (.slice (some ⟨g,0,none⟩) l.length cap) 4 (k:Int)=.pointer (some ⟨g,k*4,none⟩)from by unfold bx;rw[K8 hq];simp];clear h3;go_enter func145,ntmps145;go_wp2_with fail;refine hc.mono ?_;clear hc;rintro e w1 ⟨rfl,hb1⟩;go_wp2_with fail;go_ret;exact⟨rfl,((KL _ _).alloc (KK _) _).trans (hb1.mono (by simp))⟩
theorem Eu(n:Ls)(u1:Value)(W:World):Sem.run prog (method 416 197 (.agg #[.string n,u1]) "veil/schemas.called") W=.ok (236,.agg #[.string n]) W:=by kernel_rfl
theorem IU(w:World)(Z:Nat)(x n:Ls)(u1:Value)(hz:w.cell? ⟨Z,0,none⟩=some (.string x)):
 Calls prog 200 #[.agg #[.string n,u1],.pointer (some ⟨Z,0,none⟩)] w fun e w'=>e=.returned (.bool (n.toList==x.toList))/\Lt w w':=by
 have hzl:=KQ w _ hz;simp only at hzl;have HC:=aa (fun W=>nO W n);have Na:=fun W=>Eu n u1 W;go_enter func200,ntmps200;go_wp2_with fail;have hz2:(w.alloc (.cells #[.string n,u1] 197)).cell? ⟨Z,0,none⟩=some (.string x):=ao ((KL _ _).alloc (KK _) _) hz;go_region_with (go_at_call 236;refine(HC.o _).mono ?_;rintro e w1 ⟨rfl,hb1⟩;have hz3:w1.cell? ⟨Z,0,none⟩=some (.string x):=(hb1.cell (by simp;omega)).trans hz2);all_goals(
  go_wp2_with fail;go_ret;exact⟨rfl,(((KL w.heap.size w).alloc (KK _) (.cells #[.string n,u1] 197)).drew).trans (hb1.mono (by have:=World.size_alloc_drew w (.cells #[.string n,u1] 197);omega))⟩)
theorem Iz(w:World)(v:Value)(Z:Nat)(x:Ls)(l:List Ls)(h:fJ w v 2 l)(hl:l.length<=100000)(hz:w.cell? ⟨Z,0,none⟩=some (.string x)):
 Calls prog 199 #[v,.func (Fn.func 200) #[] #[.pointer (some ⟨Z,0,none⟩)]] w fun e w'=>e=.returned (.int .i64 (ah l x))/\Lt w w':=by
 have H0:=aa h;have HZ:=aa hz;obtain⟨a,cap,rfl,_⟩:=h;have hzl:=KQ w _ hz;simp only at hzl;generalize hq:ah l x=q;have HQ:=aa hq;clear hq hz;go_enter func199,ntmps199;go_wp2_with fail;go_loopg [5,8] l.length (fun m v5 v8 wr=>∃k:Nat,v8=.int .i64 k/\k<=l.length/\l.length-k<=m/\Lt w wr/\∀y∈l.take k,y≠x)
 case atStart=>exact⟨0,rfl,KU _,by omega,KL _ _,by simp⟩
 case round=>
  obtain⟨k,rfl,hk,hm,hb,hc⟩:=hrel;have HC:=aa hc;clear hc;have hz:=ao hb HZ.o;by_cases hlt:k<l.length
  ·obtain⟨a',LM,e1,h3⟩:=H0.o.below hb
   cases e1;obtain⟨g,ha,h4⟩:∃g,a=some ⟨g,0,none⟩/\∀(j:Nat) (x:Ls),l[j]?=some x->wr.cell? ⟨g,j*2,none⟩=some (.string x)/\∀k,0<k->k<2->∃u,wr.cell? ⟨g,j*2+k,none⟩=some u:=by
    rcases h3 with e|e
    ·rw[e]at hlt;simp at hlt
    ·exact e
   subst ha;have hx:=KM hlt;obtain⟨LQ,LW⟩:=h4 k _ hx;obtain⟨u1,hu1⟩:=LW 1 (by decide) (by decide);have HX:=aa hx;clear h4 hx LW h3;generalize l[k]=y at*;have hcl:=IU wr Z x y u1 hz;cases hy:(y.toList==x.toList)
   ·rw[hy]at hcl
    have HY:=aa hy;clear hy;go_wp2_with fail;refine hcl.mono ?_;clear hcl;rintro e w1 ⟨rfl,hb1⟩;have hbb:=hb.trans (hb1.mono hb.size);clear hb1;go_wp2_with fail;go_roundg (l.length-(k+1))
    case measure=>omega
    case rel=>exact⟨k+1,by go_num,by omega,KK _,hbb,by
     rw[Ld,HX.o];intro z hz;rcases List.mem_append.1 hz with hz|hz
     ·exact HC.o z hz
     ·simp at hz;subst hz;have:=HY.o;rw[bY]at this;simpa using this⟩
   ·rw[hy]at hcl
    have HY:=aa hy;clear hy;go_wp2_with fail;refine hcl.mono ?_;clear hcl;rintro e w1 ⟨rfl,hb1⟩;have hbb:=hb.trans (hb1.mono hb.size);clear hb1;go_wp2_with fail;go_ret;exact⟨dx (by rw[<-HQ.o];have hy:=HY.o;rw[bY]at hy;simp only[Lc]at hy;subst hy;unfold ah;rw[lj l y 0 k HC.o HX.o];simp),hbb⟩
  ·go_wp2_with fail
   go_ret;exact⟨dx (by
    rw[<-HQ.o];have:=HC.o;rw[KW (by omega)]at this;unfold ah;rw[lG l x 0 this]),hb⟩
theorem DN(w:World)(v:Value)(x:Ls)(l:List Ls)(h:fJ w v 2 l)(hl:l.length<=100000):
 Calls prog 174 #[v,.string x] w fun e w'=>e=.returned (bx v 2 (ah l x))/\Lt w w':=by
 have hc:=Iz (w.alloc (.cells #[.string x] 9)) v w.heap.size x l (h.below ((KL _ _).alloc (KK _) _)) hl (by simp);have hbd:=l8 l x;obtain⟨a,cap,rfl,h3⟩:=h;generalize ah l x=q at*;by_cases hq:q<0
 ·rw[show bx (.slice a l.length cap) 2 q=.pointer none from by unfold bx;rw[K9 hq]]
  go_enter func174,ntmps174;go_wp2_with fail;refine hc.mono ?_;clear hc;rintro e w1 ⟨rfl,hb1⟩;go_wp2_with fail;go_ret;exact⟨rfl,((KL _ _).alloc (KK _) _).trans (hb1.mono (by simp))⟩
 ·obtain⟨k,rfl⟩:∃k:Nat,q=k:=⟨q.toNat,by omega⟩
  have hkl:k<l.length:=by omega
  obtain⟨g,ha⟩:∃g,a=some ⟨g,0,none⟩:=by
   rcases h3 with e|⟨g,e,_⟩
   ·rw[e]at hkl;simp at hkl
   ·exact⟨g,e⟩
  subst ha;rw[show bx (.slice (some ⟨g,0,none⟩) l.length cap) 2 (k:Int)=.pointer (some ⟨g,k*2,none⟩)from by unfold bx;rw[K8 hq];simp];clear h3;go_enter func174,ntmps174;go_wp2_with fail;refine hc.mono ?_;clear hc;rintro e w1 ⟨rfl,hb1⟩;go_wp2_with fail;go_ret;exact⟨rfl,((KL _ _).alloc (KK _) _).trans (hb1.mono (by simp))⟩
theorem Jh(n:Ls)(u1:Value)(W:World):Sem.run prog (method 416 200 (.agg #[.string n,u1]) "veil/schemas.called") W=.ok (236,.agg #[.string n]) W:=by kernel_rfl
theorem Hv(w:World)(Z:Nat)(x n:Ls)(u1:Value)(hz:w.cell? ⟨Z,0,none⟩=some (.string x)):
 Calls prog 215 #[.agg #[.string n,u1],.pointer (some ⟨Z,0,none⟩)] w fun e w'=>e=.returned (.bool (n.toList==x.toList))/\Lt w w':=by
 have hzl:=KQ w _ hz;simp only at hzl;have HC:=aa (fun W=>nO W n);have Na:=fun W=>Jh n u1 W;go_enter func215,ntmps215;go_wp2_with fail;have hz2:(w.alloc (.cells #[.string n,u1] 200)).cell? ⟨Z,0,none⟩=some (.string x):=ao ((KL _ _).alloc (KK _) _) hz;go_region_with (go_at_call 236;refine(HC.o _).mono ?_;rintro e w1 ⟨rfl,hb1⟩;have hz3:w1.cell? ⟨Z,0,none⟩=some (.string x):=(hb1.cell (by simp;omega)).trans hz2);all_goals(
  go_wp2_with fail;go_ret;exact⟨rfl,(((KL w.heap.size w).alloc (KK _) (.cells #[.string n,u1] 200)).drew).trans (hb1.mono (by have:=World.size_alloc_drew w (.cells #[.string n,u1] 200);omega))⟩)
theorem Kg(w:World)(v:Value)(Z:Nat)(x:Ls)(l:List Ls)(h:fJ w v 2 l)(hl:l.length<=100000)(hz:w.cell? ⟨Z,0,none⟩=some (.string x)):
 Calls prog 214 #[v,.func (Fn.func 215) #[] #[.pointer (some ⟨Z,0,none⟩)]] w fun e w'=>e=.returned (.int .i64 (ah l x))/\Lt w w':=by
 have H0:=aa h;have HZ:=aa hz;obtain⟨a,cap,rfl,_⟩:=h;have hzl:=KQ w _ hz;simp only at hzl;generalize hq:ah l x=q;have HQ:=aa hq;clear hq hz;go_enter func214,ntmps214;go_wp2_with fail;go_loopg [5,8] l.length (fun m v5 v8 wr=>∃k:Nat,v8=.int .i64 k/\k<=l.length/\l.length-k<=m/\Lt w wr/\∀y∈l.take k,y≠x)
 case atStart=>exact⟨0,rfl,KU _,by omega,KL _ _,by simp⟩
 case round=>
  obtain⟨k,rfl,hk,hm,hb,hc⟩:=hrel;have HC:=aa hc;clear hc;have hz:=ao hb HZ.o;by_cases hlt:k<l.length
  ·obtain⟨a',LM,e1,h3⟩:=H0.o.below hb
   cases e1;obtain⟨g,ha,h4⟩:∃g,a=some ⟨g,0,none⟩/\∀(j:Nat) (x:Ls),l[j]?=some x->wr.cell? ⟨g,j*2,none⟩=some (.string x)/\∀k,0<k->k<2->∃u,wr.cell? ⟨g,j*2+k,none⟩=some u:=by
    rcases h3 with e|e
    ·rw[e]at hlt;simp at hlt
    ·exact e
   subst ha;have hx:=KM hlt;obtain⟨LQ,LW⟩:=h4 k _ hx;obtain⟨u1,hu1⟩:=LW 1 (by decide) (by decide);have HX:=aa hx;clear h4 hx LW h3;generalize l[k]=y at*;have hcl:=Hv wr Z x y u1 hz;cases hy:(y.toList==x.toList)
   ·rw[hy]at hcl
    have HY:=aa hy;clear hy;go_wp2_with fail;refine hcl.mono ?_;clear hcl;rintro e w1 ⟨rfl,hb1⟩;have hbb:=hb.trans (hb1.mono hb.size);clear hb1;go_wp2_with fail;go_roundg (l.length-(k+1))
    case measure=>omega
    case rel=>exact⟨k+1,by go_num,by omega,KK _,hbb,by
     rw[Ld,HX.o];intro z hz;rcases List.mem_append.1 hz with hz|hz
     ·exact HC.o z hz
     ·simp at hz;subst hz;have:=HY.o;rw[bY]at this;simpa using this⟩
   ·rw[hy]at hcl
    have HY:=aa hy;clear hy;go_wp2_with fail;refine hcl.mono ?_;clear hcl;rintro e w1 ⟨rfl,hb1⟩;have hbb:=hb.trans (hb1.mono hb.size);clear hb1;go_wp2_with fail;go_ret;exact⟨dx (by rw[<-HQ.o];have hy:=HY.o;rw[bY]at hy;simp only[Lc]at hy;subst hy;unfold ah;rw[lj l y 0 k HC.o HX.o];simp),hbb⟩
  ·go_wp2_with fail
   go_ret;exact⟨dx (by
    rw[<-HQ.o];have:=HC.o;rw[KW (by omega)]at this;unfold ah;rw[lG l x 0 this]),hb⟩
theorem EF(w:World)(v:Value)(x:Ls)(l:List Ls)(h:fJ w v 2 l)(hl:l.length<=100000):
 Calls prog 205 #[v,.string x] w fun e w'=>e=.returned (bx v 2 (ah l x))/\Lt w w':=by
 have hc:=Kg (w.alloc (.cells #[.string x] 9)) v w.heap.size x l (h.below ((KL _ _).alloc (KK _) _)) hl (by simp);have hbd:=l8 l x;obtain⟨a,cap,rfl,h3⟩:=h;generalize ah l x=q at*;by_cases hq:q<0
 ·rw[show bx (.slice a l.length cap) 2 q=.pointer none from by unfold bx;rw[K9 hq]]
  go_enter func205,ntmps205;go_wp2_with fail;refine hc.mono ?_;clear hc;rintro e w1 ⟨rfl,hb1⟩;go_wp2_with fail;go_ret;exact⟨rfl,((KL _ _).alloc (KK _) _).trans (hb1.mono (by simp))⟩
 ·obtain⟨k,rfl⟩:∃k:Nat,q=k:=⟨q.toNat,by omega⟩
  have hkl:k<l.length:=by omega
  obtain⟨g,ha⟩:∃g,a=some ⟨g,0,none⟩:=by
   rcases h3 with e|⟨g,e,_⟩
   ·rw[e]at hkl;simp at hkl
   ·exact⟨g,e⟩
  subst ha;rw[show bx (.slice (some ⟨g,0,none⟩) l.length cap) 2 (k:Int)=.pointer (some ⟨g,k*2,none⟩)from by unfold bx;rw[K8 hq];simp];clear h3;go_enter func205,ntmps205;go_wp2_with fail;refine hc.mono ?_;clear hc;rintro e w1 ⟨rfl,hb1⟩;go_wp2_with fail;go_ret;exact⟨rfl,((KL _ _).alloc (KK _) _).trans (hb1.mono (by simp))⟩
theorem Bv(n:Ls)(u1 u2 u3 u4 u5:Value)(W:World):Sem.run prog (method 416 180 (.agg #[.string n,u1,u2,u3,u4,u5]) "veil/schemas.called") W=.ok (236,.agg #[.string n]) W:=by kernel_rfl
theorem Jq(w:World)(Z:Nat)(x n:Ls)(u1 u2 u3 u4 u5:Value)(hz:w.cell? ⟨Z,0,none⟩=some (.string x)):
 Calls prog 202 #[.agg #[.string n,u1,u2,u3,u4,u5],.pointer (some ⟨Z,0,none⟩)] w fun e w'=>e=.returned (.bool (n.toList==x.toList))/\Lt w w':=by
 have hzl:=KQ w _ hz;simp only at hzl;have HC:=aa (fun W=>nO W n);have Na:=fun W=>Bv n u1 u2 u3 u4 u5 W;go_enter func202,ntmps202;go_wp2_with fail;have hz2:(w.alloc (.cells #[.string n,u1,u2,u3,u4,u5] 180)).cell? ⟨Z,0,none⟩=some (.string x):=ao ((KL _ _).alloc (KK _) _) hz;go_region_with (go_at_call 236;refine(HC.o _).mono ?_;rintro e w1 ⟨rfl,hb1⟩;have hz3:w1.cell? ⟨Z,0,none⟩=some (.string x):=(hb1.cell (by simp;omega)).trans hz2);all_goals(
  go_wp2_with fail;go_ret;exact⟨rfl,(((KL w.heap.size w).alloc (KK _) (.cells #[.string n,u1,u2,u3,u4,u5] 180)).drew).trans (hb1.mono (by have:=World.size_alloc_drew w (.cells #[.string n,u1,u2,u3,u4,u5] 180);omega))⟩)
theorem IK(w:World)(v:Value)(Z:Nat)(x:Ls)(l:List Ls)(h:fJ w v 6 l)(hl:l.length<=100000)(hz:w.cell? ⟨Z,0,none⟩=some (.string x)):
 Calls prog 201 #[v,.func (Fn.func 202) #[] #[.pointer (some ⟨Z,0,none⟩)]] w fun e w'=>e=.returned (.int .i64 (ah l x))/\Lt w w':=by
 have H0:=aa h;have HZ:=aa hz;obtain⟨a,cap,rfl,_⟩:=h;have hzl:=KQ w _ hz;simp only at hzl;generalize hq:ah l x=q;have HQ:=aa hq;clear hq hz;go_enter func201,ntmps201;go_wp2_with fail;go_loopg [5,8] l.length (fun m v5 v8 wr=>∃k:Nat,v8=.int .i64 k/\k<=l.length/\l.length-k<=m/\Lt w wr/\∀y∈l.take k,y≠x)
 case atStart=>exact⟨0,rfl,KU _,by omega,KL _ _,by simp⟩
 case round=>
  obtain⟨k,rfl,hk,hm,hb,hc⟩:=hrel;have HC:=aa hc;clear hc;have hz:=ao hb HZ.o;by_cases hlt:k<l.length
  ·obtain⟨a',LM,e1,h3⟩:=H0.o.below hb
   cases e1;obtain⟨g,ha,h4⟩:∃g,a=some ⟨g,0,none⟩/\∀(j:Nat) (x:Ls),l[j]?=some x->wr.cell? ⟨g,j*6,none⟩=some (.string x)/\∀k,0<k->k<6->∃u,wr.cell? ⟨g,j*6+k,none⟩=some u:=by
    rcases h3 with e|e
    ·rw[e]at hlt;simp at hlt
    ·exact e
   subst ha;have hx:=KM hlt;obtain⟨LQ,LW⟩:=h4 k _ hx;obtain⟨u1,hu1⟩:=LW 1 (by decide) (by decide);obtain⟨u2,hu2⟩:=LW 2 (by decide) (by decide);obtain⟨u3,hu3⟩:=LW 3 (by decide) (by decide);obtain⟨u4,hu4⟩:=LW 4 (by decide) (by decide);obtain⟨u5,hu5⟩:=LW 5 (by decide) (by decide);have HX:=aa hx;clear h4 hx LW h3;generalize l[k]=y at*;have hcl:=Jq wr Z x y u1 u2 u3 u4 u5 hz;cases hy:(y.toList==x.toList)
   ·rw[hy]at hcl
    have HY:=aa hy;clear hy;go_wp2_with fail;refine hcl.mono ?_;clear hcl;rintro e w1 ⟨rfl,hb1⟩;have hbb:=hb.trans (hb1.mono hb.size);clear hb1;go_wp2_with fail;go_roundg (l.length-(k+1))
    case measure=>omega
    case rel=>exact⟨k+1,by go_num,by omega,KK _,hbb,by
     rw[Ld,HX.o];intro z hz;rcases List.mem_append.1 hz with hz|hz
     ·exact HC.o z hz
     ·simp at hz;subst hz;have:=HY.o;rw[bY]at this;simpa using this⟩
   ·rw[hy]at hcl
    have HY:=aa hy;clear hy;go_wp2_with fail;refine hcl.mono ?_;clear hcl;rintro e w1 ⟨rfl,hb1⟩;have hbb:=hb.trans (hb1.mono hb.size);clear hb1;go_wp2_with fail;go_ret;exact⟨dx (by rw[<-HQ.o];have hy:=HY.o;rw[bY]at hy;simp only[Lc]at hy;subst hy;unfold ah;rw[lj l y 0 k HC.o HX.o];simp),hbb⟩
  ·go_wp2_with fail
   go_ret;exact⟨dx (by
    rw[<-HQ.o];have:=HC.o;rw[KW (by omega)]at this;unfold ah;rw[lG l x 0 this]),hb⟩
theorem IM(w:World)(v:Value)(x:Ls)(l:List Ls)(h:fJ w v 6 l)(hl:l.length<=100000):
 Calls prog 175 #[v,.string x] w fun e w'=>e=.returned (bx v 6 (ah l x))/\Lt w w':=by
 have hc:=IK (w.alloc (.cells #[.string x] 9)) v w.heap.size x l (h.below ((KL _ _).alloc (KK _) _)) hl (by simp);have hbd:=l8 l x;obtain⟨a,cap,rfl,h3⟩:=h;generalize ah l x=q at*;by_cases hq:q<0
 ·rw[show bx (.slice a l.length cap) 6 q=.pointer none from by unfold bx;rw[K9 hq]]
  go_enter func175,ntmps175;go_wp2_with fail;refine hc.mono ?_;clear hc;rintro e w1 ⟨rfl,hb1⟩;go_wp2_with fail;go_ret;exact⟨rfl,((KL _ _).alloc (KK _) _).trans (hb1.mono (by simp))⟩
 ·obtain⟨k,rfl⟩:∃k:Nat,q=k:=⟨q.toNat,by omega⟩
  have hkl:k<l.length:=by omega
  obtain⟨g,ha⟩:∃g,a=some ⟨g,0,none⟩:=by
   rcases h3 with e|⟨g,e,_⟩
   ·rw[e]at hkl;simp at hkl
   ·exact⟨g,e⟩
  subst ha;rw[show bx (.slice (some ⟨g,0,none⟩) l.length cap) 6 (k:Int)=.pointer (some ⟨g,k*6,none⟩)from by unfold bx;rw[K8 hq];simp];clear h3;go_enter func175,ntmps175;go_wp2_with fail;refine hc.mono ?_;clear hc;rintro e w1 ⟨rfl,hb1⟩;go_wp2_with fail;go_ret;exact⟨rfl,((KL _ _).alloc (KK _) _).trans (hb1.mono (by simp))⟩
structure SV(w:World)(S:Nat)(vR vO vI vU vN:Value)(LR:List (aj×Value))(LO:List (aH×Value×Value×Value))(LI:List (bC×Value))(LU:List (bB×Value))(names:List Ls):Prop where
 sc:SC w S vR vO vI vU vN
 r:dk w S 154 2 vR mv (gj S) LR
 o:dk w S 163 4 vO sE (gb S) LO
 i:dk w S 197 2 vI sD (gl S) LI
 u:dk w S 200 2 vU tT (gc S) LU
 n:w.ownsRow S 152 1 vN names.length (bt names)
 lr:LR.length<=804
 lo:LO.length<=804
 li:LI.length<=804
 lu:LU.length<=804
 ln:names.length<=804
theorem SV.below{w w':World}{S:Nat}{vR vO vI vU vN:Value}{LR:List (aj×Value)}{LO:List (aH×Value×Value×Value)}{LI:List (bC×Value)}{LU:List (bB×Value)}{names:List Ls}(h:SV w S vR vO vI vU vN LR LO LI LU names)(hb:Lt w w'):SV w' S vR vO vI vU vN LR LO LI LU names:=by
 have hin:ip S w w':=(bP.of_below (b:=0) (S:=0) hb).inner;exact⟨(hb.block S (ag h.sc)).trans h.sc,h.r.stays (au.of_below hb) (fun x hx=>gj.stays hin hx),h.o.stays (au.of_below hb) (fun x hx=>gb.stays hin hx),h.i.stays (au.of_below hb) (fun x hx=>gl.stays hin hx),h.u.stays (au.of_below hb) (fun x hx=>gc.stays hin hx),bZ h.n hb,h.lr,h.lo,h.li,h.lu,h.ln⟩
theorem CU{β:Type}(flat:β->List Value)(size:Nat)(hf:∀x,(flat x).length=size):∀(L:List β) (j k:Nat) (x:β),L[j]?=some x->k<size->(L.flatMap flat)[j*size+k]?=(flat x)[k]?
 |[],j,k,x,h,_=>by simp at h
 |y::L,0,k,x,h,hk=>by
  simp at h;subst h;rw[List.flatMap_cons,Lf (by rw[hf];omega)];simp
 |y::L,j+1,k,x,h,hk=>by
  rw[List.flatMap_cons,Lg (by rw[hf,Nat.succ_mul];omega),hf];rw[show(j+1)*size+k-size=j*size+k by rw[Nat.succ_mul];omega];exact CU flat size hf L j k x (by simpa using h) hk
theorem dk.cell{β:Type}{w:World}{B e size:Nat}{v:Value}{flat:β->List Value}{ok:World->β->Prop}{L:List β}(h:dk w B e size v flat ok L)(hf:∀x,(flat x).length=size)(j:Nat)(x:β)(hx:L[j]?=some x):∃g cap,v=.slice (some ⟨g,0,none⟩) L.length cap/\∀k u,(flat x)[k]?=some u->w.cell? ⟨g,j*size+k,none⟩=some u:=by
 have hj:=(KO.1 hx).1;rcases h.own.2 with⟨_,y⟩|⟨g,cap,cur,hv,hg,hh,hn,_,hs,ht⟩
 ·omega
 ·refine⟨g,cap,hv,fun k u hu=>?_⟩
  have hk:k<size:=by have:=(KO.1 hu).1;rw[hf]at this;exact this
  have h1:=CU flat size hf L j k x hx hk;rw[<-ht,hu]at h1;rw[ae hh];rw[List.getElem?_take]at h1;split at h1
  ·simpa using h1
  ·cases h1
theorem dk.rowed{β:Type}{w:World}{B e size:Nat}{v:Value}{flat:β->List Value}{ok:World->β->Prop}{L:List β}(h:dk w B e size v flat ok L)(nmOf:β->Ls)(hf:∀x,(flat x).length=size)(h0:∀x,(flat x)[0]?=some (.string (nmOf x))):fJ w v size (L.map nmOf):=by
 obtain⟨a,cap,hv⟩:=bc h.own;refine⟨a,cap,by simpa using hv,?_⟩;cases hL:L with
 |nil=>left;rfl
 |cons y l=>
  right;obtain⟨g,LM,hv',_⟩:=h.cell hf 0 y (by rw[hL];rfl);rw[hv]at hv';cases hv';refine⟨g,rfl,fun j x hx=>?_⟩;rw[<-hL,La]at hx;cases hz:L[j]? with
  |none=>rw[hz]at hx;cases hx
  |some z=>
   rw[hz]at hx;cases hx;obtain⟨g2,cap2,hv2,hc⟩:=h.cell hf j z hz;rw[hv]at hv2;cases hv2;refine⟨by have:=hc 0 _ (h0 z);simpa using this,fun k _ hk=>?_⟩;have:k<(flat z).length:=by rw[hf];exact hk
   exact⟨_,hc k _ (KM this)⟩
def rN(x:aj×Value):Ls:=x.1.name
def oN(x:aH×Value×Value×Value):Ls:=x.1.name
def iN(x:bC×Value):Ls:=x.1.name
def uN(x:bB×Value):Ls:=x.1.name
theorem mJ{w:World}{v:Value}{size:Nat}{l:List Ls}(h:fJ w v size l)(x:Ls):(ah l x<0->bx v size (ah l x)=.pointer none)/\(¬ah l x<0->∃a,bx v size (ah l x)=.pointer (some a)):=by
 obtain⟨a,cap,rfl,h3⟩:=h;refine⟨fun hq=>by unfold bx;rw[K9 hq],fun hq=>?_⟩;have hb:=l8 l x;rcases h3 with e|⟨g,e,_⟩
 ·subst e;simp at hb;omega
 ·subst e;unfold bx;rw[K8 hq];exact⟨_,rfl⟩
abbrev KH:=List (aj×Value)
theorem xo(x:Ls)(w:World):Calls prog 99 #[.string x] w fun e w'=>e=.returned (.bool (co x))/\w'=w:=by
 have HQ:=aa (xA x);cases t1:(x.toList==[73,110,116])
 ·cases t2:(x.toList==[83,116,114,105,110,103])
  ·cases t3:(x.toList==[66,111,111,108,101,97,110])
   ·cases t4:(x.toList==[73,68])
    ·go_enter func99,ntmps99
     go_wp2
     go_ret;exact⟨am (by rw[HQ.o,t1,t2,t3,t4];rfl),rfl⟩
    ·go_enter func99,ntmps99
     go_wp2
     go_ret;exact⟨am (by rw[HQ.o,t1,t2,t3,t4];rfl),rfl⟩
   ·go_enter func99,ntmps99
    go_wp2
    go_ret;exact⟨am (by rw[HQ.o,t1,t2,t3];rfl),rfl⟩
  ·go_enter func99,ntmps99
   go_wp2
   go_ret;exact⟨am (by rw[HQ.o,t1,t2];rfl),rfl⟩
 ·go_enter func99,ntmps99
  go_wp2
  go_ret;exact⟨am (by rw[HQ.o,t1];rfl),rfl⟩
theorem SV.rowRole{w:World}{S:Nat}{vR vO vI vU vN:Value}{LR:List (aj×Value)}{LO:List (aH×Value×Value×Value)}{LI:List (bC×Value)}{LU:List (bB×Value)}{names:List Ls}(h:SV w S vR vO vI vU vN LR LO LI LU names):fJ w vR 2 (LR.map rN):=h.r.rowed rN (fun _=>rfl) (fun _=>rfl)
theorem Af(w:World)(S:Nat)(vR vO vI vU vN:Value)(LR:List (aj×Value))(LO:List (aH×Value×Value×Value))(LI:List (bC×Value))(LU:List (bB×Value))(names:List Ls)(x:Ls)(h:SV w S vR vO vI vU vN LR LO LI LU names):
 Calls prog 142 #[.pointer (some ⟨S,0,none⟩),.string x] w fun e w'=>e=.returned (bx vR 2 (ah (LR.map rN) x))/\Lt w w':=by
 have hc:=Hn w vR x (LR.map rN) h.rowRole (by have:=h.lr;simp;omega);have c0:w.cell? ⟨S,0,none⟩=some vR:=ae h.sc 0;obtain⟨a,cap,hv⟩:=bc h.r.own;clear h;subst hv;generalize ah (LR.map rN) x=q at*;go_enter func142,ntmps142;go_wp2_with fail;refine hc.mono ?_;clear hc;rintro e w1 ⟨rfl,hb1⟩;go_wp2_with fail;go_ret;exact⟨rfl,hb1⟩
theorem SV.rowObject{w:World}{S:Nat}{vR vO vI vU vN:Value}{LR:List (aj×Value)}{LO:List (aH×Value×Value×Value)}{LI:List (bC×Value)}{LU:List (bB×Value)}{names:List Ls}(h:SV w S vR vO vI vU vN LR LO LI LU names):fJ w vO 4 (LO.map oN):=h.o.rowed oN (fun _=>rfl) (fun _=>rfl)
theorem wn(w:World)(S:Nat)(vR vO vI vU vN:Value)(LR:List (aj×Value))(LO:List (aH×Value×Value×Value))(LI:List (bC×Value))(LU:List (bB×Value))(names:List Ls)(x:Ls)(h:SV w S vR vO vI vU vN LR LO LI LU names):
 Calls prog 105 #[.pointer (some ⟨S,0,none⟩),.string x] w fun e w'=>e=.returned (bx vO 4 (ah (LO.map oN) x))/\Lt w w':=by
 have hc:=DH w vO x (LO.map oN) h.rowObject (by have:=h.lo;simp;omega);have c0:w.cell? ⟨S,1,none⟩=some vO:=ae h.sc 1;obtain⟨a,cap,hv⟩:=bc h.o.own;clear h;subst hv;generalize ah (LO.map oN) x=q at*;go_enter func105,ntmps105;go_wp2_with fail;refine hc.mono ?_;clear hc;rintro e w1 ⟨rfl,hb1⟩;go_wp2_with fail;go_ret;exact⟨rfl,hb1⟩
theorem SV.rowIface{w:World}{S:Nat}{vR vO vI vU vN:Value}{LR:List (aj×Value)}{LO:List (aH×Value×Value×Value)}{LI:List (bC×Value)}{LU:List (bB×Value)}{names:List Ls}(h:SV w S vR vO vI vU vN LR LO LI LU names):fJ w vI 2 (LI.map iN):=h.i.rowed iN (fun _=>rfl) (fun _=>rfl)
theorem xM(w:World)(S:Nat)(vR vO vI vU vN:Value)(LR:List (aj×Value))(LO:List (aH×Value×Value×Value))(LI:List (bC×Value))(LU:List (bB×Value))(names:List Ls)(x:Ls)(h:SV w S vR vO vI vU vN LR LO LI LU names):
 Calls prog 139 #[.pointer (some ⟨S,0,none⟩),.string x] w fun e w'=>e=.returned (bx vI 2 (ah (LI.map iN) x))/\Lt w w':=by
 have hc:=DN w vI x (LI.map iN) h.rowIface (by have:=h.li;simp;omega);have c0:w.cell? ⟨S,2,none⟩=some vI:=ae h.sc 2;obtain⟨a,cap,hv⟩:=bc h.i.own;clear h;subst hv;generalize ah (LI.map iN) x=q at*;go_enter func139,ntmps139;go_wp2_with fail;refine hc.mono ?_;clear hc;rintro e w1 ⟨rfl,hb1⟩;go_wp2_with fail;go_ret;exact⟨rfl,hb1⟩
theorem SV.rowUnion{w:World}{S:Nat}{vR vO vI vU vN:Value}{LR:List (aj×Value)}{LO:List (aH×Value×Value×Value)}{LI:List (bC×Value)}{LU:List (bB×Value)}{names:List Ls}(h:SV w S vR vO vI vU vN LR LO LI LU names):fJ w vU 2 (LU.map uN):=h.u.rowed uN (fun _=>rfl) (fun _=>rfl)
theorem zQ(w:World)(S:Nat)(vR vO vI vU vN:Value)(LR:List (aj×Value))(LO:List (aH×Value×Value×Value))(LI:List (bC×Value))(LU:List (bB×Value))(names:List Ls)(x:Ls)(h:SV w S vR vO vI vU vN LR LO LI LU names):
 Calls prog 178 #[.pointer (some ⟨S,0,none⟩),.string x] w fun e w'=>e=.returned (bx vU 2 (ah (LU.map uN) x))/\Lt w w':=by
 have hc:=EF w vU x (LU.map uN) h.rowUnion (by have:=h.lu;simp;omega);have c0:w.cell? ⟨S,3,none⟩=some vU:=ae h.sc 3;obtain⟨a,cap,hv⟩:=bc h.u.own;clear h;subst hv;generalize ah (LU.map uN) x=q at*;go_enter func178,ntmps178;go_wp2_with fail;refine hc.mono ?_;clear hc;rintro e w1 ⟨rfl,hb1⟩;go_wp2_with fail;go_ret;exact⟨rfl,hb1⟩
def has(l:List Ls)(x:Ls):Bool:=decide (¬ah l x<0)
def aZ(Lx ifs uns:List Ls)(x:Ls):Nat:=
 if co x=true then 1 else if has Lx x=true then 2 else if has ifs x=true then 3 else if has uns x=true then 4 else 0
theorem s9(w:World)(S:Nat)(vR vO vI vU vN:Value)(LR:List (aj×Value))(LO:List (aH×Value×Value×Value))(LI:List (bC×Value))(LU:List (bB×Value))(names:List Ls)(x:Ls)(h:SV w S vR vO vI vU vN LR LO LI LU names):
 Calls prog 144 #[.pointer (some ⟨S,0,none⟩),.string x] w fun e w'=>e=.returned (.int .i64 (aZ (LO.map oN) (LI.map iN) (LU.map uN) x))/\Lt w w':=by
 have hsc:=xo x;cases hx:co x
 ·rw[hx]at hsc
  have h1:=wn w S vR vO vI vU vN LR LO LI LU names x h;have HI:=aa (fun w' hb=>xM w' S vR vO vI vU vN LR LO LI LU names x (h.below hb));have HU:=aa (fun w' hb=>zQ w' S vR vO vI vU vN LR LO LI LU names x (h.below hb));have n1:=mJ h.rowObject x;have n2:=mJ h.rowIface x;have n3:=mJ h.rowUnion x;have HQ:=aa (show aZ (LO.map oN) (LI.map iN) (LU.map uN) x=if has (LO.map oN) x=true then 2 else if has (LI.map iN) x=true then 3 else if has (LU.map uN) x=true then 4 else 0 from by unfold aZ;rw[hx];simp);unfold has at HQ;generalize aZ (LO.map oN) (LI.map iN) (LU.map uN) x=kk at*;generalize bx vO 4 (ah (LO.map oN) x)=p1 at*;generalize bx vI 2 (ah (LI.map iN) x)=p2 at*;generalize bx vU 2 (ah (LU.map uN) x)=p3 at*;generalize ah (LO.map oN) x=q1 at*;generalize ah (LI.map iN) x=q2 at*;generalize ah (LU.map uN) x=q3 at*;clear h hx;by_cases e1:q1<0
  ·have t1:=n1.1 e1
   subst t1;by_cases e2:q2<0
   ·have t2:=n2.1 e2
    subst t2;by_cases e3:q3<0
    ·have t3:=n3.1 e3
     subst t3;have HE:=aa (show kk=0 from by rw[HQ.o];simp[e1,e2,e3]);clear n1 n2 n3 e1 e2 e3 HQ;go_enter func144,ntmps144;go_wp2_with fail;refine(hsc w).mono ?_;rintro e w1 ⟨rfl,hw1⟩;have hw1:=hw1.symm;subst hw1;go_wp2_with fail;refine h1.mono ?_;clear h1;rintro e w1 ⟨rfl,hb1⟩;go_wp2_with fail;refine(HI.o w1 hb1).mono ?_;rintro e w2 ⟨rfl,hb2⟩;have Mm:=hb1.trans (hb2.mono hb1.size);go_wp2_with fail;refine(HU.o w2 Mm).mono ?_;rintro e w3 ⟨rfl,hb3⟩;go_wp2_with fail;go_ret;exact⟨dx (by rw[HE.o];rfl),Mm.trans (hb3.mono Mm.size)⟩
    ·obtain⟨a3,t3⟩:=n3.2 e3
     subst t3;have HE:=aa (show kk=4 from by rw[HQ.o];simp[e1,e2,e3]);clear n1 n2 n3 e1 e2 e3 HQ;go_enter func144,ntmps144;go_wp2_with fail;refine(hsc w).mono ?_;rintro e w1 ⟨rfl,hw1⟩;have hw1:=hw1.symm;subst hw1;go_wp2_with fail;refine h1.mono ?_;clear h1;rintro e w1 ⟨rfl,hb1⟩;go_wp2_with fail;refine(HI.o w1 hb1).mono ?_;rintro e w2 ⟨rfl,hb2⟩;have Mm:=hb1.trans (hb2.mono hb1.size);go_wp2_with fail;refine(HU.o w2 Mm).mono ?_;rintro e w3 ⟨rfl,hb3⟩;go_wp2_with fail;go_ret;exact⟨dx (by rw[HE.o];rfl),Mm.trans (hb3.mono Mm.size)⟩
   ·obtain⟨a2,t2⟩:=n2.2 e2
    subst t2;have HE:=aa (show kk=3 from by rw[HQ.o];simp[e1,e2]);clear n1 n2 n3 e1 e2 HQ HU;go_enter func144,ntmps144;go_wp2_with fail;refine(hsc w).mono ?_;rintro e w1 ⟨rfl,hw1⟩;have hw1:=hw1.symm;subst hw1;go_wp2_with fail;refine h1.mono ?_;clear h1;rintro e w1 ⟨rfl,hb1⟩;go_wp2_with fail;refine(HI.o w1 hb1).mono ?_;rintro e w2 ⟨rfl,hb2⟩;go_wp2_with fail;go_ret;exact⟨dx (by rw[HE.o];rfl),hb1.trans (hb2.mono hb1.size)⟩
  ·obtain⟨a1,t1⟩:=n1.2 e1
   subst t1;have HE:=aa (show kk=2 from by rw[HQ.o];simp[e1]);clear n1 n2 n3 e1 HQ HU HI;go_enter func144,ntmps144;go_wp2_with fail;refine(hsc w).mono ?_;rintro e w1 ⟨rfl,hw1⟩;have hw1:=hw1.symm;subst hw1;go_wp2_with fail;refine h1.mono ?_;clear h1;rintro e w1 ⟨rfl,hb1⟩;go_wp2_with fail;go_ret;exact⟨dx (by rw[HE.o];rfl),hb1⟩
 ·rw[hx]at hsc
  have HE:=aa (show aZ (LO.map oN) (LI.map iN) (LU.map uN) x=1 from by unfold aZ;rw[K9 hx]);generalize aZ (LO.map oN) (LI.map iN) (LU.map uN) x=kk at*;clear h hx;go_enter func144,ntmps144;go_wp2_with fail;refine(hsc w).mono ?_;rintro e w1 ⟨rfl,hw1⟩;have hw1:=hw1.symm;subst hw1;go_wp2_with fail;go_ret;exact⟨dx (by rw[HE.o];rfl),KL _ _⟩
def jN(Lu:List Ls)(x:Ls):Bool:=decide (x=bE)||has Lu x
theorem Cm(w:World)(S:Nat)(vR vO vI vU vN:Value)(LR:List (aj×Value))(LO:List (aH×Value×Value×Value))(LI:List (bC×Value))(LU:List (bB×Value))(names:List Ls)(x:Ls)(h:SV w S vR vO vI vU vN LR LO LI LU names):
 Calls prog 171 #[.pointer (some ⟨S,0,none⟩),.string x] w fun e w'=>e=.returned (.bool (jN (LR.map rN) x))/\Lt w w':=by
 have hc:=Af w S vR vO vI vU vN LR LO LI LU names x h;have hn:=mJ h.rowRole x;have HQ:=aa (show jN (LR.map rN) x=(x.toList.isEmpty||decide (¬ah (LR.map rN) x<0))from by unfold jN has;rw[kL]);generalize jN (LR.map rN) x=mm at*;generalize bx vR 2 (ah (LR.map rN) x)=pp at*;generalize ah (LR.map rN) x=q at*;clear h;cases he:x.toList.isEmpty
 ·by_cases hq:q<0
  ·have t1:=hn.1 hq
   subst t1;have HE:=aa (show mm=false from by rw[HQ.o,he];simp[hq]);clear hn hq HQ;go_enter func171,ntmps171;go_wp2_with fail;refine hc.mono ?_;clear hc;rintro e w1 ⟨rfl,hb1⟩;go_wp2_with fail;go_ret;exact⟨am (by rw[HE.o]),hb1⟩
  ·obtain⟨a1,t1⟩:=hn.2 hq
   subst t1;have HE:=aa (show mm=true from by rw[HQ.o,he];simp[hq]);clear hn hq HQ;go_enter func171,ntmps171;go_wp2_with fail;refine hc.mono ?_;clear hc;rintro e w1 ⟨rfl,hb1⟩;go_wp2_with fail;go_ret;exact⟨am (by rw[HE.o]),hb1⟩
 ·have HE:=aa (show mm=true from by rw[HQ.o,he];rfl)
  clear hn HQ;go_enter func171,ntmps171;go_wp2_with fail;go_ret;exact⟨am (by rw[HE.o]),KL _ _⟩
def bN:dh->Ls
 | .one n _=>n
 | .list t _=>bN t
def rA:dh->Nat
 | .one _ _=>0
 | .list t _=>rA t+1
def ir:dh->dh->Bool
 | .one n s,.one m r=>(s==r)&&decide (n=m)
 | .list a s,.list b r=>(s==r)&&ir a b
 |_,_=>false
def mw:dh->Bool
 | .one _ _=>false
 | .list _ _=>true
theorem Kd(w:World)(B:Nat)(v:Value)(t:dh)(h:d9 w B v t):
 Calls prog 170 #[v] w fun e w'=>(∃k st,e=.returned (.pointer (some ⟨k,0,none⟩))/\w.heap[k]?=some (.cells #[.string (bN t),.int .i64 0,.pointer none,.bool st] 257 (0,0)))/\w'=w:=by
 have HQ:=aa (show bN t=bN t from rfl);obtain⟨k0,rfl⟩:=h.ptr;have H0:=aa h;clear h;go_enter func170,ntmps170;go_wp2_with fail;go_loopg [0] (rA t) (fun m v0 wr=>∃t',d9 w B v0 t'/\bN t'=bN t/\rA t'<=m/\wr=w)
 case atStart=>exact⟨t,H0.o,rfl,KK _,rfl⟩
 case round=>
  obtain⟨t',ht,hct,hd,rfl⟩:=hrel;have HCT:=aa hct;clear hct H0 HQ;cases t' with
  |one n st=>
   obtain⟨k,hk,_,hb⟩:=ht;subst hk;have c1:wr.cell? ⟨k,1,none⟩=some (.int .i64 0):=ae hb 1;have HB:=aa hb;clear hb;go_wp2_with fail;go_ret;exact⟨⟨k,st,rfl,by rw[<-HCT.o];exact HB.o⟩,rfl⟩
  |list t1 st=>
   obtain⟨k,u,hk,_,hb,ht1⟩:=ht;subst hk;obtain⟨k1,hk1⟩:=ht1.ptr;subst hk1;have c1:wr.cell? ⟨k,1,none⟩=some (.int .i64 1):=ae hb 1;have c2:wr.cell? ⟨k,2,none⟩=some (.pointer (some ⟨k1,0,none⟩)):=ae hb 2;have HT:=aa ht1;have hd':rA t1+1<=gk:=hd;clear hb ht1;go_wp2_with fail;go_roundg (rA t1)
   case measure=>omega
   case rel=>exact⟨t1,HT.o,HCT.o,KK _,rfl⟩
def qk(s:Ls):Bool:=decide (s.data.toList.take 2=[95,95])
theorem JX(s:Ls)(w:World):
 Calls prog 163 #[.string s,.string ⟨#[95,95]⟩] w fun e w'=>e=.returned (.bool (qk s))/\w'=w:=by
 by_cases hd3:2<=s.size
 ·have h3:2<=(s.size:Int):=by omega
  have HT:=aa (show((s.extract 0 2).toList==[95,95])=qk s from by
   unfold qk;rw[Lib.toList_data,Lib.extract_data,Bool.eq_iff_iff];simp)
  cases hdd:((s.extract 0 2).toList==[95,95])
  ·go_enter func163,ntmps163
   go_wp2
   go_ret;exact⟨am (by rw[<-HT.o,hdd]),rfl⟩
  ·go_enter func163,ntmps163
   go_wp2
   go_ret;exact⟨am (by rw[<-HT.o,hdd]),rfl⟩
 ·have h3:¬2<=(s.size:Int):=by omega
  have HT:=aa (show qk s=false from by unfold qk;rw[decide_eq_false_iff_not];intro e;have:=congrArg List.length e;simp at this;have h9:s.data.size=s.size:=rfl;omega);go_enter func163,ntmps163
  go_wp2
  go_ret;exact⟨am (by rw[HT.o]),rfl⟩
structure fc(w:World)(g o:Nat)(f:ax)(u:Value):Prop where
 c0:w.cell? ⟨g,o,none⟩=some (.string f.name)
 c1:w.cell? ⟨g,o+1,none⟩=some (.string f.LG)
 c2:w.cell? ⟨g,o+2,none⟩=some (.string f.LH)
 c3:w.cell? ⟨g,o+3,none⟩=some (.string f.arg)
 c4:w.cell? ⟨g,o+4,none⟩=some (.string f.scalar)
 c5:w.cell? ⟨g,o+5,none⟩=some u
theorem fc.below{w w':World}{g o:Nat}{f:ax}{u:Value}(h:fc w g o f u)(hb:Lt w w'):fc w' g o f u:=
 ⟨ao hb h.c0,ao hb h.c1,ao hb h.c2,ao hb h.c3,ao hb h.c4,ao hb h.c5⟩
def jp(kind:Ls->Nat)(arg:Ls)(t:dh):Bool:=
 if arg=ik then !mw t&&decide (kind (bN t)≠1)
 else if arg=mp then mw t
 else true
theorem Kj(w:World)(S:Nat)(vR vO vI vU vN:Value)(LR:List (aj×Value))(LO:List (aH×Value×Value×Value))(LI:List (bC×Value))(LU:List (bB×Value))(names:List Ls)(g o B:Nat)(f:ax)(u:Value)(h:SV w S vR vO vI vU vN LR LO LI LU names)(hf:fc w g o f u)(ht:d9 w B u f.ty):
 Calls prog 172 #[.pointer (some ⟨S,0,none⟩),.pointer (some ⟨g,o,none⟩)] w fun e w'=>e=.returned (.bool (jp (aZ (LO.map oN) (LI.map iN) (LU.map uN)) f.arg f.ty))/\Lt w w':=by
 have c3:=hf.c3;have c5:=hf.c5;clear hf;have L1:=bV f.arg [105,100];have L2:=bV f.arg [102,105,114,115,116];obtain⟨fn,fa,fh,fx,fs,ty⟩:=f;simp only[]at*;by_cases e1:fx=ik
 ·rw[Le (show fx=aE _ from e1)]at L1
  cases ty with
  |one n st=>
   obtain⟨k,rfl,_,hb⟩:=ht;have d0:w.cell? ⟨k,0,none⟩=some (.string n):=ae hb 0;have d1:w.cell? ⟨k,1,none⟩=some (.int .i64 0):=ae hb 1;have hk:=s9 w S vR vO vI vU vN LR LO LI LU names n h;have HQ:=aa (show jp (aZ (LO.map oN) (LI.map iN) (LU.map uN)) fx (.one n st)=decide (aZ (LO.map oN) (LI.map iN) (LU.map uN) n≠1)from by unfold jp;rw[K9 e1];rfl);generalize jp (aZ (LO.map oN) (LI.map iN) (LU.map uN)) fx (.one n st)=FF at*;generalize aZ (LO.map oN) (LI.map iN) (LU.map uN) n=kk at*;clear hb h e1 L2;by_cases hk1:kk=1
   ·have t1:((kk:Int)==1)=true:=by simp;omega
    go_enter func172,ntmps172;go_wp2_with fail;refine hk.mono ?_;clear hk;rintro e w1 ⟨rfl,hb1⟩;go_wp2_with fail;go_ret;exact⟨am (by rw[HQ.o];simp[hk1]),hb1⟩
   ·have t1:((kk:Int)==1)=false:=by simp;omega
    go_enter func172,ntmps172;go_wp2_with fail;refine hk.mono ?_;clear hk;rintro e w1 ⟨rfl,hb1⟩;go_wp2_with fail;go_ret;exact⟨am (by rw[HQ.o];have:¬(kk:Int)=1:=(by omega);simp[hk1,this]),hb1⟩
  |list t st=>
   obtain⟨k,u1,rfl,_,hb,_⟩:=ht;have d1:w.cell? ⟨k,1,none⟩=some (.int .i64 1):=ae hb 1;have HQ:=aa (show jp (aZ (LO.map oN) (LI.map iN) (LU.map uN)) fx (.list t st)=false from by unfold jp;rw[K9 e1];rfl);generalize jp (aZ (LO.map oN) (LI.map iN) (LU.map uN)) fx (.list t st)=FF at*;clear hb h e1 L2;go_enter func172,ntmps172;go_wp2_with fail;go_ret;exact⟨am (by rw[HQ.o]),KL _ _⟩
 ·rw[KT (show¬fx=aE _ from e1)]at L1
  by_cases e2:fx=mp
  ·rw[Le (show fx=aE _ from e2)]at L2
   have HQ:=aa (show jp (aZ (LO.map oN) (LI.map iN) (LU.map uN)) fx ty=mw ty from by unfold jp;rw[K8 e1,K9 e2]);generalize jp (aZ (LO.map oN) (LI.map iN) (LU.map uN)) fx ty=FF at*;cases ty with
   |one n st=>
    obtain⟨k,rfl,_,hb⟩:=ht;have d1:w.cell? ⟨k,1,none⟩=some (.int .i64 0):=ae hb 1;clear hb h e1 e2;go_enter func172,ntmps172;go_wp2_with fail;go_ret;exact⟨am (by rw[HQ.o];rfl),KL _ _⟩
   |list t st=>
    obtain⟨k,u1,rfl,_,hb,_⟩:=ht;have d1:w.cell? ⟨k,1,none⟩=some (.int .i64 1):=ae hb 1;clear hb h e1 e2;go_enter func172,ntmps172;go_wp2_with fail;go_ret;exact⟨am (by rw[HQ.o];rfl),KL _ _⟩
  ·rw[KT (show¬fx=aE _ from e2)]at L2
   have HQ:=aa (show jp (aZ (LO.map oN) (LI.map iN) (LU.map uN)) fx ty=true from by unfold jp;rw[K8 e1,K8 e2]);generalize jp (aZ (LO.map oN) (LI.map iN) (LU.map uN)) fx ty=FF at*;clear h e1 e2 ht;go_enter func172,ntmps172;go_wp2_with fail;go_ret;exact⟨am (by rw[HQ.o]),KL _ _⟩
def jM(Lu:List Ls)(kind:Ls->Nat)(f:ax):Bool:=
 !qk f.name&&(decide (kind (bN f.ty)≠0)&&(jN Lu f.LG&&(jN Lu f.LH&&jp kind f.arg f.ty)))
theorem Jx(w:World)(S:Nat)(vR vO vI vU vN:Value)(LR:List (aj×Value))(LO:List (aH×Value×Value×Value))(LI:List (bC×Value))(LU:List (bB×Value))(names:List Ls)(g o B:Nat)(f:ax)(u:Value)(h:SV w S vR vO vI vU vN LR LO LI LU names)(hf:fc w g o f u)(ht:d9 w B u f.ty):
 Calls prog 137 #[.pointer (some ⟨S,0,none⟩),.pointer (some ⟨g,o,none⟩)] w fun e w'=>e=.returned (.bool (jM (LR.map rN) (aZ (LO.map oN) (LI.map iN) (LU.map uN)) f))/\Lt w w':=by
 have HF:=aa hf;have c0:=hf.c0;have c1:=hf.c1;have c2:=hf.c2;have c5:=hf.c5;have hp:=JX f.name;have hin:=Kd w B u f.ty ht;have hk:=s9 w S vR vO vI vU vN LR LO LI LU names (bN f.ty) h;have HM1:=aa (fun w' hb=>Cm w' S vR vO vI vU vN LR LO LI LU names f.LG (h.below hb));have HM2:=aa (fun w' hb=>Cm w' S vR vO vI vU vN LR LO LI LU names f.LH (h.below hb));have HA:=aa (fun w' hb=>Kj w' S vR vO vI vU vN LR LO LI LU names g o B f u (h.below hb) (HF.o.below hb) (ht.stays (au.of_below hb)));obtain⟨ku,rfl⟩:=ht.ptr;have HQ:=aa (show jM (LR.map rN) (aZ (LO.map oN) (LI.map iN) (LU.map uN)) f=(!qk f.name&&(decide (aZ (LO.map oN) (LI.map iN) (LU.map uN) (bN f.ty)≠0)&&(jN (LR.map rN) f.LG&&(jN (LR.map rN) f.LH&&jp (aZ (LO.map oN) (LI.map iN) (LU.map uN)) f.arg f.ty))))from rfl);generalize jM (LR.map rN) (aZ (LO.map oN) (LI.map iN) (LU.map uN)) f=FF at*;generalize jp (aZ (LO.map oN) (LI.map iN) (LU.map uN)) f.arg f.ty=q5 at*;generalize aZ (LO.map oN) (LI.map iN) (LU.map uN) (bN f.ty)=kk at*;generalize jN (LR.map rN) f.LG=q3 at*;generalize jN (LR.map rN) f.LH=q4 at*;generalize qk f.name=q1 at*;generalize bN f.ty=cT at*;clear h hf ht;cases q1
 ·by_cases hk0:kk=0
  ·have t1:((kk:Int)==0)=true:=by simp;omega
   have HQ2:=aa (show FF=false from by rw[HQ.o];simp[hk0]);clear HQ;have HQ:=HQ2;clear HQ2;go_enter func137,ntmps137;go_wp2_with fail;refine(hp w).mono ?_;rintro e w0 ⟨rfl,hw0⟩;have hw0:=hw0.symm;subst hw0;go_wp2_with fail;refine hin.mono ?_;clear hin;rintro e w0 ⟨⟨kI,st,rfl,hbI⟩,hw0⟩;have hw0:=hw0.symm;subst hw0;have dI:w.cell? ⟨kI,0,none⟩=some (.string cT):=ae hbI 0;clear hbI;go_wp2_with fail;refine hk.mono ?_;clear hk;rintro e w1 ⟨rfl,hb1⟩;have f1:=HF.o.below hb1;have c11:=f1.c1;have c12:=f1.c2;clear f1;go_wp2_with fail;go_ret;exact⟨am (by first|(rw[HQ.o];done)|(rw[HQ.o];rfl)),hb1⟩
  ·have t1:((kk:Int)==0)=false:=by simp;omega
   have HQ2:=aa (show FF=(q3&&(q4&&q5))from by rw[HQ.o];simp[hk0]);clear HQ;have HQ:=HQ2;clear HQ2;cases q3
   ·skip
    go_enter func137,ntmps137;go_wp2_with fail;refine(hp w).mono ?_;rintro e w0 ⟨rfl,hw0⟩;have hw0:=hw0.symm;subst hw0;go_wp2_with fail;refine hin.mono ?_;clear hin;rintro e w0 ⟨⟨kI,st,rfl,hbI⟩,hw0⟩;have hw0:=hw0.symm;subst hw0;have dI:w.cell? ⟨kI,0,none⟩=some (.string cT):=ae hbI 0;clear hbI;go_wp2_with fail;refine hk.mono ?_;clear hk;rintro e w1 ⟨rfl,hb1⟩;have f1:=HF.o.below hb1;have c11:=f1.c1;have c12:=f1.c2;clear f1;go_wp2_with fail;refine(HM1.o w1 hb1).mono ?_;rintro e w2 ⟨rfl,hb2⟩;have Mm:=hb1.trans (hb2.mono hb1.size);have f2:=HF.o.below Mm;have c22:=f2.c2;clear f2;go_wp2_with fail;go_ret;exact⟨am (by first|(rw[HQ.o];done)|(rw[HQ.o];rfl)),Mm⟩
   ·cases q4
    ·skip
     go_enter func137,ntmps137;go_wp2_with fail;refine(hp w).mono ?_;rintro e w0 ⟨rfl,hw0⟩;have hw0:=hw0.symm;subst hw0;go_wp2_with fail;refine hin.mono ?_;clear hin;rintro e w0 ⟨⟨kI,st,rfl,hbI⟩,hw0⟩;have hw0:=hw0.symm;subst hw0;have dI:w.cell? ⟨kI,0,none⟩=some (.string cT):=ae hbI 0;clear hbI;go_wp2_with fail;refine hk.mono ?_;clear hk;rintro e w1 ⟨rfl,hb1⟩;have f1:=HF.o.below hb1;have c11:=f1.c1;have c12:=f1.c2;clear f1;go_wp2_with fail;refine(HM1.o w1 hb1).mono ?_;rintro e w2 ⟨rfl,hb2⟩;have Mm:=hb1.trans (hb2.mono hb1.size);have f2:=HF.o.below Mm;have c22:=f2.c2;clear f2;go_wp2_with fail;refine(HM2.o w2 Mm).mono ?_;rintro e w3 ⟨rfl,hb3⟩;have hb13:=Mm.trans (hb3.mono Mm.size);go_wp2_with fail;go_ret;exact⟨am (by first|(rw[HQ.o];done)|(rw[HQ.o];rfl)),hb13⟩
    ·skip
     go_enter func137,ntmps137;go_wp2_with fail;refine(hp w).mono ?_;rintro e w0 ⟨rfl,hw0⟩;have hw0:=hw0.symm;subst hw0;go_wp2_with fail;refine hin.mono ?_;clear hin;rintro e w0 ⟨⟨kI,st,rfl,hbI⟩,hw0⟩;have hw0:=hw0.symm;subst hw0;have dI:w.cell? ⟨kI,0,none⟩=some (.string cT):=ae hbI 0;clear hbI;go_wp2_with fail;refine hk.mono ?_;clear hk;rintro e w1 ⟨rfl,hb1⟩;have f1:=HF.o.below hb1;have c11:=f1.c1;have c12:=f1.c2;clear f1;go_wp2_with fail;refine(HM1.o w1 hb1).mono ?_;rintro e w2 ⟨rfl,hb2⟩;have Mm:=hb1.trans (hb2.mono hb1.size);have f2:=HF.o.below Mm;have c22:=f2.c2;clear f2;go_wp2_with fail;refine(HM2.o w2 Mm).mono ?_;rintro e w3 ⟨rfl,hb3⟩;have hb13:=Mm.trans (hb3.mono Mm.size);go_wp2_with fail;refine(HA.o w3 hb13).mono ?_;rintro e w4 ⟨rfl,hb4⟩;have hb14:=hb13.trans (hb4.mono hb13.size);go_wp2_with fail;go_ret;exact⟨am (by rw[HQ.o];simp[hk0]),hb14⟩
 ·skip
  go_enter func137,ntmps137;go_wp2_with fail;refine(hp w).mono ?_;rintro e w0 ⟨rfl,hw0⟩;have hw0:=hw0.symm;subst hw0;go_wp2_with fail;go_ret;exact⟨am (by first|(rw[HQ.o];done)|(rw[HQ.o];rfl)),KL _ _⟩
def rJ(x:ax×Value):List Value:=(qI x.1 x.2).toList
def tb(B:Nat)(w:World)(x:ax×Value):Prop:=d9 w B x.2 x.1.ty
def fN(x:ax×Value):Ls:=x.1.name
theorem iv.row{w:World}{B:Nat}{v:Value}{l:List ax}(h:iv w B v l):∃L:List (ax×Value),L.map Prod.fst=l/\dk w B 180 6 v rJ (tb B) L:=by
 obtain⟨L,e,ho,ht⟩:=h;exact⟨L,e,ho,ht⟩
theorem pQ(L:List (ax×Value))(l:List ax)(h:L.map Prod.fst=l):L.map fN=l.map ax.name:=by
 rw[<-h,List.map_map];rfl
theorem dk.fldAt{w:World}{B:Nat}{v:Value}{L:List (ax×Value)}(h:dk w B 180 6 v rJ (tb B) L)(j:Nat)(x:ax×Value)(hx:L[j]?=some x):∃g cap,v=.slice (some ⟨g,0,none⟩) L.length cap/\fc w g (j*6) x.1 x.2/\d9 w B x.2 x.1.ty:=by
 obtain⟨g,cap,hv,hc⟩:=h.cell (fun _=>rfl) j x hx;exact⟨g,cap,hv,⟨by simpa using hc 0 _ rfl,hc 1 _ rfl,hc 2 _ rfl,hc 3 _ rfl,hc 4 _ rfl,hc 5 _ rfl⟩,h.ok x (KN hx)⟩
theorem wW(w:World)(gO oO:Nat)(vF:Value)(x:Ls)(l:List Ls)(hc:w.cell? ⟨gO,oO+1,none⟩=some vF)(h:fJ w vF 6 l)(hl:l.length<=100000):
 Calls prog 140 #[.pointer (some ⟨gO,oO,none⟩),.string x] w fun e w'=>e=.returned (bx vF 6 (ah l x))/\Lt w w':=by
 have hf:=IM w vF x l h hl;obtain⟨a,cap,rfl,_⟩:=h;generalize ah l x=q at*;go_enter func140,ntmps140;go_wp2_with fail;refine hf.mono ?_;clear hf;rintro e w1 ⟨rfl,hb1⟩;go_wp2_with fail;go_ret;exact⟨rfl,hb1⟩
def mZ(f:ax):Bool:=!mw f.ty&&(co (bN f.ty)&&(decide (f.LG=bE)&&(decide (f.LH=bE)&&decide (f.arg=bE))))
theorem EY(w:World):Calls prog 143 #[.pointer none] w fun e w'=>e=.returned (.bool false)/\Lt w w':=by
 go_enter func143,ntmps143;go_wp2_with fail;go_ret;exact⟨rfl,KL _ _⟩
theorem DP(w:World)(g o B:Nat)(f:ax)(u:Value)(hf:fc w g o f u)(ht:d9 w B u f.ty):
 Calls prog 143 #[.pointer (some ⟨g,o,none⟩)] w fun e w'=>e=.returned (.bool (mZ f))/\Lt w w':=by
 have c1:=hf.c1;have c2:=hf.c2;have c3:=hf.c3;have c5:=hf.c5;clear hf;obtain⟨fn,fa,fh,fx,fs,ty⟩:=f;simp only[]at*;cases ty with
 |list t st=>
  obtain⟨k,u1,rfl,_,hb,_⟩:=ht;have d1:w.cell? ⟨k,1,none⟩=some (.int .i64 1):=ae hb 1;clear hb;rw[show mZ ⟨fn,fa,fh,fx,fs,.list t st⟩=false from rfl];go_enter func143,ntmps143;go_wp2_with fail;go_ret;exact⟨rfl,KL _ _⟩
 |one n st=>
  obtain⟨k,rfl,_,hb⟩:=ht;have d0:w.cell? ⟨k,0,none⟩=some (.string n):=ae hb 0;have d1:w.cell? ⟨k,1,none⟩=some (.int .i64 0):=ae hb 1;clear hb;have hs:=xo n;have HQ:=aa (show mZ ⟨fn,fa,fh,fx,fs,.one n st⟩=(co n&&(fa.toList.isEmpty&&(fh.toList.isEmpty&&fx.toList.isEmpty)))from by unfold mZ;rw[kL,kL,kL];rfl);generalize mZ ⟨fn,fa,fh,fx,fs,.one n st⟩=FF at*;generalize co n=q1 at*;cases q1
  ·go_enter func143,ntmps143
   go_wp2_with fail;refine(hs w).mono ?_;rintro e w0 ⟨rfl,hw0⟩;have hw0:=hw0.symm;subst hw0;go_wp2_with fail;go_ret;exact⟨am (by rw[HQ.o];rfl),KL _ _⟩
  ·cases t1:fa.toList.isEmpty
   ·rw[t1]at HQ
    go_enter func143,ntmps143;go_wp2_with fail;refine(hs w).mono ?_;rintro e w0 ⟨rfl,hw0⟩;have hw0:=hw0.symm;subst hw0;go_wp2_with fail;go_ret;exact⟨am (by rw[HQ.o];rfl),KL _ _⟩
   ·cases t2:fh.toList.isEmpty
    ·rw[t1,t2]at HQ
     go_enter func143,ntmps143;go_wp2_with fail;refine(hs w).mono ?_;rintro e w0 ⟨rfl,hw0⟩;have hw0:=hw0.symm;subst hw0;go_wp2_with fail;go_ret;exact⟨am (by rw[HQ.o];rfl),KL _ _⟩
    ·rw[t1,t2]at HQ
     go_enter func143,ntmps143;go_wp2_with fail;refine(hs w).mono ?_;rintro e w0 ⟨rfl,hw0⟩;have hw0:=hw0.symm;subst hw0;go_wp2_with fail;go_ret;exact⟨am (by rw[HQ.o];simp),KL _ _⟩
def ml(l:List ax)(n:Ls):Bool:=if ah (l.map ax.name) n<0 then false else match l[(ah (l.map ax.name) n).toNat]? with
 |some f=>mZ f
 |none=>false
def hZ(Lu:List Ls)(l:List ax)(x:cw):Bool:=if x.1=true then has Lu x.2 else ml l x.2
theorem J1(w:World)(S:Nat)(vR vO vI vU vN:Value)(LR:List (aj×Value))(LO:List (aH×Value×Value×Value))(LI:List (bC×Value))(LU:List (bB×Value))(names:List Ls)(gO oO B:Nat)(vF:Value)(l:List ax)(Q:Nat->Prop)(h:SV w S vR vO vI vU vN LR LO LI LU names)(hcF:w.cell? ⟨gO,oO+1,none⟩=some vF)(hF:iv w B vF l)(hl:l.length<=100000):∀(v:Value) (ls:List cw),oH w Q v ls->∀W,Lt w W->
 Calls prog 103 #[.pointer (some ⟨S,0,none⟩),v,.pointer (some ⟨gO,oO,none⟩)] W fun e w'=>e=.returned (.bool (ls.all (hZ (LR.map rN) l)))/\Lt W w':=by
 intro v ls hr
 induction hr with
 |is k n a c d e hq hb=>
  intro W hW;have hb2:=(hW.block k (ag hb)).trans hb;have c0:W.cell? ⟨k,0,none⟩=some (.string n):=ae hb2 0;have c1:W.cell? ⟨k,1,none⟩=some (.int .i64 4):=ae hb2 1;have hc:=Af W S vR vO vI vU vN LR LO LI LU names n (h.below hW);have hn:=mJ (h.below hW).rowRole n;have HQ:=aa (show [(true,n)].all (hZ (LR.map rN) l)=decide (¬ah (LR.map rN) n<0)from by simp[hZ,has]);generalize [(true,n)].all (hZ (LR.map rN) l)=FF at*;generalize bx vR 2 (ah (LR.map rN) n)=pp at*;generalize ah (LR.map rN) n=q at*;clear h hcF hF hb hb2;by_cases hq:q<0
  ·have t1:=hn.1 hq
   subst t1;have HE:=aa (show FF=false from by rw[HQ.o];simp[hq]);clear hn hq HQ;go_enter func103,ntmps103;go_wp2_with fail;refine hc.mono ?_;clear hc;rintro e w1 ⟨rfl,hb1⟩;go_wp2_with fail;go_ret;exact⟨am (by rw[HE.o]),hb1⟩
  ·obtain⟨a1,t1⟩:=hn.2 hq
   subst t1;have HE:=aa (show FF=true from by rw[HQ.o];simp[hq]);clear hn hq HQ;go_enter func103,ntmps103;go_wp2_with fail;refine hc.mono ?_;clear hc;rintro e w1 ⟨rfl,hb1⟩;go_wp2_with fail;go_ret;exact⟨am (by rw[HE.o]),hb1⟩
 |eq k n a c d e hq hb=>
  intro W hW;have hb2:=(hW.block k (ag hb)).trans hb;have c0:W.cell? ⟨k,0,none⟩=some (.string n):=ae hb2 0;have c1:W.cell? ⟨k,1,none⟩=some (.int .i64 5):=ae hb2 1;obtain⟨L,hL,Ma⟩:=hF.row;have Me:L.length=l.length:=by rw[<-hL];simp
  have hrd:fJ w vF 6 (l.map ax.name):=by rw[<-pQ L l hL];exact Ma.rowed fN (fun _=>rfl) (fun _=>rfl)
  have HC1:=aa (fun W' (hb:Lt w W')=>wW W' gO oO vF n (l.map ax.name) (ao hb hcF) (hrd.below hb) (by simpa using hl));have Nn:∀W',Lt w W'->Calls prog 143 #[bx vF 6 (ah (l.map ax.name) n)] W' fun e w'=>e=.returned (.bool (ml l n))/\Lt W' w':=by
   intro W' hb';by_cases hq:ah (l.map ax.name) n<0
   ·rw[(mJ hrd n).1 hq,show ml l n=false from by unfold ml;rw[K9 hq]]
    exact EY W'
   ·have hbd:=l8 (l.map ax.name) n
    obtain⟨j,hj⟩:∃j:Nat,ah (l.map ax.name) n=j:=⟨(ah (l.map ax.name) n).toNat,by omega⟩;have hjl:j<L.length:=by rw[hj]at hbd;simp at hbd;omega
    have hx:=KM hjl;obtain⟨g,cap,hv,hfa,hta⟩:=Ma.fldAt j _ hx;have hlj:l[j]?=some L[j].1:=by rw[<-hL,La,hx];rfl
    rw[show ml l n=mZ L[j].1 from by unfold ml;rw[K8 hq,hj];simp only[Lk];rw[hlj]];rw[show bx vF 6 (ah (l.map ax.name) n)=.pointer (some ⟨g,j*6,none⟩)from by unfold bx;rw[K8 hq,hj,hv];simp];exact DP W' g (j*6) B _ _ (hfa.below hb') (hta.stays (au.of_below hb'))
  have HC2:=aa Nn;have HQ:=aa (show [(false,n)].all (hZ (LR.map rN) l)=ml l n from by simp[hZ]);generalize [(false,n)].all (hZ (LR.map rN) l)=FF at*;generalize ml l n=GG at*;generalize bx vF 6 (ah (l.map ax.name) n)=pp at*;have HW:=aa hW;clear h hcF hF hb hb2 Nn Ma hL Me hrd;go_enter func103,ntmps103;go_wp2_with fail;go_region_with (first
   |(go_at_call 140;refine(HC1.o _ ?_).mono ?_;(first|exact HW.o.drew|exact HW.o);rintro e w1 ⟨rfl,hb1⟩;have HB1:=aa (HW.o.drew.trans (hb1.mono HW.o.size)))
   |(go_at_call 143;refine(HC2.o _ ?_).mono ?_;(first|exact HB1.o|exact HB1.o.drew);rintro e w2 ⟨rfl,hb2⟩))
  all_goals(
   go_wp2_with fail;go_ret;exact⟨am (by rw[HQ.o]),((KL _ _).drew.trans hb1).trans (hb2.mono hb1.size)⟩)
 |node k c n v x y z vs ls hq hc4 hb LJ hQ hvl Me Mo ih=>
  intro W hW;have hb2:=(hW.block k (ag hb)).trans hb;have c0:W.cell? ⟨k,0,none⟩=some (.string n):=ae hb2 0;have c1:W.cell? ⟨k,1,none⟩=some (.int .i64 c):=ae hb2 1;have c2:W.cell? ⟨k,2,none⟩=some v:=ae hb2 2;have hO:=bZ LJ hW;obtain⟨aV,cV,rfl⟩:=bc hO;have t4:((c:Int)==4)=false:=by simp;omega
  have t5:((c:Int)==5)=false:=by simp;omega
  have HIH:=aa ih;have HO:=aa hO;have HQ:=aa (show ls.flatten.all (hZ (LR.map rN) l)=ls.all (fun x=>x.all (hZ (LR.map rN) l))from by rw[List.all_flatten]);have N8:=aa Me;have HW:=aa hW;generalize ls.flatten.all (hZ (LR.map rN) l)=FF at*;clear h hcF hF hb hb2 ih hO Mo hQ LJ Me;go_enter func103,ntmps103;go_wp2_with fail;go_loopg [8,40] vs.length (fun m v8 v40 wr=>∃j:Nat,v40=.int .i64 j/\j<=vs.length/\vs.length-j<=m/\Lt W wr/\(ls.take j).all (fun x=>x.all (hZ (LR.map rN) l))=true)
  case atStart=>exact⟨0,rfl,KU _,by omega,KL _ _,by simp⟩
  case round=>
   obtain⟨j,rfl,hj,hm,hbj,LZ⟩:=hrel;have Mb:=aa LZ;clear LZ;by_cases hlt:j<vs.length
   ·have hx:=KM hlt
    have hlj:j<ls.length:=by rw[<-N8.o];exact hlt
    have hy:=KM hlj;have hOr:=bZ HO.o hbj;have LQ:wr.cell? (⟨(match aV with|some a=>a.block|none=>0),j,none⟩:Addr)=some vs[j]:=by
     rcases hOr.2 with⟨e,e0⟩|⟨g,cap,cur,hv,hg,hh,_⟩
     ·omega
     ·cases hv
      have:=hOr.cellAt j (by omega);simpa [hx]using this
    obtain⟨g,ha⟩:∃g,aV=some ⟨g,0,none⟩:=by
     rcases hOr.2 with⟨e,e0⟩|⟨g,cap,cur,hv,_⟩
     ·omega
     ·cases hv;exact⟨g,rfl⟩
    subst ha;simp only at LQ;have hbw:=HW.o.trans (hbj.mono HW.o.size);have hci:=HIH.o j _ _ hx hy wr hbw;have HY:=aa hy;clear hx hy hOr;generalize vs[j]=uj at*;generalize hlv:ls[j]=lv at*;clear hlv;have HXJ:=aa (show(ls.take (j+1)).all (fun x=>x.all (hZ (LR.map rN) l))=lv.all (hZ (LR.map rN) l)from by
     rw[Ld,HY.o,List.all_append,Mb.o];simp)
    cases hv:lv.all (hZ (LR.map rN) l)
    ·rw[hv]at hci HXJ
     have HE:=aa (show FF=false from by
      rw[HQ.o,Bool.eq_false_iff];intro hT;rw[Lh]at hT;have:=hT lv (KN HY.o);rw[hv]at this;cases this)
     clear hv;go_wp2_with fail;refine hci.mono ?_;clear hci;rintro e w1 ⟨rfl,hb1⟩;have hbb:=hbj.trans (hb1.mono hbj.size);clear hb1;go_wp2_with fail;go_ret;exact⟨am (by rw[HE.o]),hbb⟩
    ·rw[hv]at hci HXJ
     clear hv;go_wp2_with fail;refine hci.mono ?_;clear hci;rintro e w1 ⟨rfl,hb1⟩;have hbb:=hbj.trans (hb1.mono hbj.size);clear hb1;go_wp2_with fail;go_roundg (vs.length-(j+1))
     case measure=>omega
     case rel=>exact⟨j+1,by go_num,by omega,KK _,hbb,HXJ.o⟩
   ·go_wp2_with fail
    go_ret;exact⟨am (by
     rw[HQ.o];have:=Mb.o;rw[KW (by have:=N8.o;omega)]at this;rw[this]),hbj⟩
end Go.Proofs.YtgbloieahmkcjaaGreat
