import Derived.Test.YtogdodlibkckkaaGreatDoorZ08
namespace Go.Proofs.YtogdodlibkckkaaGreatDoor
set_option maxHeartbeats 20000000
set_option maxRecDepth 100000
open Go.RowKit Tryz
attribute [local go_sem ↓] Go.wp_at_zero Go.wp_at_succ
structure At where
 name:yF
 fields:List Am
structure Aw where
 name:yF
 members:List yF
structure Be where
 roles:List Au
 objs:List Aq
 ifs:List At
 uns:List Aw
 names:List yF
def Oy:yF:=Az [105,110,116,101,114,102,97,99,101]
def OC:yF:=Az [117,110,105,111,110]
def BA(c:Be)(s:St):Be×St:=
 if nm s=Nc then({c with roles:=c.roles++[(ED (nmT s)).1]},(ED (nmT s)).2)
 else if nm s=Ng then({c with objs:=c.objs++[(CB (nmT s)).1],names:=c.names++[(CB (nmT s)).1.name]},(CB (nmT s)).2)
 else if nm s=Oy then({c with ifs:=c.ifs++[⟨nm (nmT s),(CL (nmT (nmT s))).1⟩],names:=c.names++[nm (nmT s)]},(CL (nmT (nmT s))).2)
 else if nm s=OC then({c with uns:=c.uns++[⟨nm (nmT s),(EW (nmT (nmT s))).1⟩],names:=c.names++[nm (nmT s)]},(EW (nmT (nmT s))).2)
 else(c,none)
structure BV{β:Type}(w:World)(B e size:Nat)(v:Value)(flat:β->List Value)(ok:World->β->Prop)(L:List β):Prop where
 own:w.ownsRow B e size v L.length (L.flatMap flat)
 ok:∀x∈L,ok w x
def Ek(S:Nat)(w w':World):Prop:=Ap 9 S w w'/\Ap 166 S w w'/\Ap 302 S w w'/\Ap 206 S w w'/\Ap 147 S w w'
def Nv(x:Au×Value):List Value:=[.string x.1.name,x.2]
def DP(S:Nat)(w:World)(x:Au×Value):Prop:=w.ownsRow S 9 1 x.2 x.1.inc.length (Bn x.1.inc)/\x.1.inc.length<=803
def OX(x:Aq×Value×Value×Value):List Value:=[.string x.1.name,x.2.1,x.2.2.1,x.2.2.2]
def DO(S:Nat)(w:World)(x:Aq×Value×Value×Value):Prop:=DE w S x.2.1 x.1.fields/\x.1.fields.length<=802/\w.ownsRow S 9 1 x.2.2.1 x.1.impl.length (Bn x.1.impl)/\x.1.impl.length<=803/\Ho w S x.2.2.2 x.1.rule x.1.tree
def OW(x:At×Value):List Value:=[.string x.1.name,x.2]
def DN(S:Nat)(w:World)(x:At×Value):Prop:=DE w S x.2 x.1.fields/\x.1.fields.length<=802
def OY(x:Aw×Value):List Value:=[.string x.1.name,x.2]
def DQ(S:Nat)(w:World)(x:Aw×Value):Prop:=w.ownsRow S 9 1 x.2 x.1.members.length (Bn x.1.members)/\x.1.members.length<=803
theorem DP.stays{S:Nat}{w w':World}(b:Ek S w w'){x:Au×Value}(a:DP S w x):DP S w' x:=⟨CE a.1 b.1,a.2⟩
theorem DO.stays{S:Nat}{w w':World}(a:Ek S w w'){x:Aq×Value×Value×Value}(b:DO S w x):DO S w' x:=⟨b.1.stays a.2.1 a.2.2.1,b.2.1,CE b.2.2.1 a.1,b.2.2.2.1,b.2.2.2.2.stays a.2.2.2.1 a.2.2.2.2⟩
theorem DN.stays{S:Nat}{w w':World}(a:Ek S w w'){x:At×Value}(b:DN S w x):DN S w' x:=⟨b.1.stays a.2.1 a.2.2.1,b.2⟩
theorem DQ.stays{S:Nat}{w w':World}(b:Ek S w w'){x:Aw×Value}(a:DQ S w x):DQ S w' x:=⟨CE a.1 b.1,a.2⟩
theorem BV.stays{β:Type}{w w':World}{B e size:Nat}{v:Value}{flat:β->List Value}{ok:World->β->Prop}{a:List β}(b:BV w B e size v flat ok a)(c:Ap e B w w')(d:∀x,ok w x->ok w' x):BV w' B e size v flat ok a:=
 ⟨CE b.own c,fun x f=>d x (b.ok x f)⟩
structure Ff(w:World)(S:Nat)(c:Be):Prop where
 ex:∃vR vO vI vU vN LR LO LI LU,SC w S vR vO vI vU vN/\BV w S 134 2 vR Nv (DP S) LR/\BV w S 149 4 vO OX (DO S) LO/\BV w S 268 2 vI OW (DN S) LI/\BV w S 271 2 vU OY (DQ S) LU/\w.ownsRow S 132 1 vN c.names.length (Bn c.names)/\LR.map Prod.fst=c.roles/\LO.map Prod.fst=c.objs/\LI.map Prod.fst=c.ifs/\LU.map Prod.fst=c.uns
theorem info134:(prog.info? 134).map (fun i=>(i.zero,i.size,i.bytes))=some (some (.agg #[.string ⟨#[]⟩,.slice none 0 0]),2,40):=by kernel_rfl
theorem info149:(prog.info? 149).map (fun i=>(i.zero,i.size,i.bytes))=some (some (.agg #[.string ⟨#[]⟩,.slice none 0 0,.slice none 0 0,.pointer none]),4,72):=by kernel_rfl
theorem info268:(prog.info? 268).map (fun i=>(i.zero,i.size,i.bytes))=some (some (.agg #[.string ⟨#[]⟩,.slice none 0 0]),2,40):=by kernel_rfl
theorem info271:(prog.info? 271).map (fun i=>(i.zero,i.size,i.bytes))=some (some (.agg #[.string ⟨#[]⟩,.slice none 0 0]),2,40):=by kernel_rfl
theorem Sm{a b:Value}(d:a.oneCell'=true)(e:b.oneCell'=true):∀u∈[a,b],u.oneCell'=true:=by
 intro u c;simp at c;rcases c with rfl|rfl<;>assumption
theorem pJ{a b c d:Value}(f:a.oneCell'=true)(g:b.oneCell'=true)(h:c.oneCell'=true)(i:d.oneCell'=true):∀u∈[a,b,c,d],u.oneCell'=true:=by
 intro u e;simp at e;rcases e with rfl|rfl|rfl|rfl<;>assumption
theorem AZ.inner{b c S:Nat}{w w':World}(a:AZ b c w w'):Ek S w w':=⟨a.stay (by decide) (by decide) (by decide),a.stay (by decide) (by decide) (by decide),a.stay (by decide) (by decide) (by decide),a.stay (by decide) (by decide) (by decide),a.stay (by decide) (by decide) (by decide)⟩
structure Lo(b S:Nat)(w w':World):Prop where
 os:w'.os=w.os
 tape:w'.tape=w.tape
 output:w'.output=w.output
 size:w.heap.size<=w'.heap.size
 low:∀k,k<S->k<w.heap.size->k≠b->w'.heap[k]?=w.heap[k]?
theorem Lo.trans{b S:Nat}{x y z:World}(a:Lo b S x y)(k:Lo b S y z):Lo b S x z:=⟨k.os.trans a.os,k.tape.trans a.tape,k.output.trans a.output,wV a.size k.size,fun i c d hb=>(k.low i c (xA d a.size) hb).trans (a.low i c d hb)⟩
theorem Lo.of_keep{b S:Nat}{w w':World}(a:Ag b w w'):Lo b S w w':=⟨a.os,a.tape,a.output,a.size,fun k _ c hb=>a.block k c hb⟩
theorem AZ.lo{b S:Nat}{w w':World}(a:AZ b S w w'):Lo b S w w':=⟨a.os,a.tape,a.output,a.size,a.low⟩
theorem Lo.of_below{b S:Nat}{w w':World}(a:yG w w'):Lo b S w w':=⟨a.os,a.tape,a.output,a.size,fun k _ c _=>a.block k c⟩
theorem Lo.of_grown{b S:Nat}{y z:World}{row:Option Nat}(a:y.grownBy z row)(d:∀k,row=some k->S<=k):Lo b S y z:=⟨a.os,a.tape,a.output,a.size,fun k f c _=>a.block k c (fun e=>by have:=d k e.symm;omega)⟩
theorem Lo.set{b S:Nat}{x y:World}{F:Nat}(a:Lo b S x y)(hF:S<=F)(i:Nat)(v:Value):Lo b S x (y.setCell ⟨F,i,none⟩ v):=a.trans ⟨rfl,rfl,rfl,by simp[World.setCell],fun k d _ _=>xC _ _ _ _ (fun e=>by have c:k=F:=e;omega)⟩
theorem Lo.below{b S B:Nat}{w w':World}(a:Lo b S w w')(hb:B<=b)(d:B<=S)(c:B<=w.heap.size):Below B w w':=⟨a.os,a.tape,a.output,a.size,fun k e=>a.low k (by omega) (by omega) (by omega)⟩
theorem Yo(w:World)(p b S G:Nat)(s:St)(c:Be)(aj:PP w p b S)(ai:PS w b G s)(ak:Ff w S c)(bS:b<S)(bM:G<S)(bW:c.roles.length<=100000)(bV:c.objs.length<=100000)(bU:c.ifs.length<=100000)(bX:c.uns.length<=100000)(aS:c.names.length<=100000):
 Calls prog 83 #[.pointer (some ⟨p,0,none⟩)] w fun e w'=>e=.returned (.tuple #[])/\PS w' b G (BA c s).2/\PP w' p b S/\Ff w' S (BA c s).1/\Lo b S w w':=by
 obtain⟨aV,aU,aT,aW,Z,i,h,f,j,aQ,bP,bO,bN,bQ,a3,b0,bZ,bY,b1⟩:=ak.ex;clear ak;have ch:i.length<=100000:=by rw[<-b0]at bW;simpa using bW
 have cg:h.length<=100000:=by rw[<-bZ]at bV;simpa using bV
 have cf:f.length<=100000:=by rw[<-bY]at bU;simpa using bU
 have ci:j.length<=100000:=by rw[<-b1]at bX;simpa using bX
 have bv:=Aa b0;have bu:=Aa bZ;have bt:=Aa bY;have bw:=Aa b1;clear b0 bZ bY b1 bW bV bU bX;obtain⟨L,P,rfl⟩:=An bP.own;obtain⟨K,O,rfl⟩:=An bO.own;obtain⟨J,N,rfl⟩:=An bN.own;obtain⟨M,Q,rfl⟩:=An bQ.own;have cj:=ai.lt;have ce:=ai.glt;have ck:=aj.lt;have cd:=Ab aQ;have c0:=aj.c0;have cc:=aj.c1;have ak:=Eh w b G s ai;have Y:=Aa ai;have aK:=Aa aj;have aM:=Aa (show w.heap[S]?=some (.cells #[.slice L i.length P,.slice K h.length O,.slice J f.length N,.slice M j.length Q,Z] 141 (0,0))from aQ);have aL:=Aa bP;have aJ:=Aa bO;have aH:=Aa bN;have aN:=Aa bQ;have aI:=Aa a3;clear ai aj aQ bP bO bN bQ a3;have bx:=BX (nm s) [114,111,108,101];have bz:=BX (nm s) [116,121,112,101];have bA:=BX (nm s) [105,110,116,101,114,102,97,99,101];have bB:=BX (nm s) [117,110,105,111,110];by_cases aa:nm s=Nc
 ·skip
  have ar:=Aa (show BA c s=({c with roles:=c.roles++[(ED (nmT s)).1]},(ED (nmT s)).2)from by unfold BA;rw[xH aa]);rw[xM (show nm s=Az _ from aa)]at bx;clear aa bz bA bB;generalize BA c s=ao at*;generalize nm s=bH at*;generalize nmT s=s1 at*;have aE:=fun W (aj:PP W p b S) (ai:PS W b G s1)=>sI W p b S G s1 aj ai;generalize ED s1=C at*;go_enter func83,ntmps83;go_wp2_with fail;refine ak.mono ?_;clear ak;rintro e w1 ⟨rfl,r,t⟩;have bj:AZ b S w w1:=AZ.of_keep t Y.o.ty.choose_spec;have a:∀T,T≠215->Ap T S w w1:=fun T aR=>Y.o.stay t aR;have v:Ek S w w1:=⟨a _ (by decide),a _ (by decide),a _ (by decide),a _ (by decide),a _ (by decide)⟩;have D:=Aa (t.at aM.o (by omega));have au:=Aa (aL.o.stays (a _ (by decide)) (fun x d=>DP.stays v d));have aq:=Aa (aJ.o.stays (a _ (by decide)) (fun x d=>DO.stays v d));have ap:=Aa (aH.o.stays (a _ (by decide)) (fun x d=>DN.stays v d));have av:=Aa (aN.o.stays (a _ (by decide)) (fun x d=>DQ.stays v d));have a7:=Aa (CE aI.o (a _ (by decide)));have R:=Aa (aK.o.keep Y.o t);have ah:=Aa (show PS w1 b G s1 from r);have a6:=Aa (Lo.of_keep (S:=S) t);clear r t bj a v Y aK aM aL aJ aH aN aI;have bs:=Ab D.o;have b2:=R.o.lt;have bI:w1.cell? ⟨S,0,none⟩=some (.slice L i.length P):=Ac D.o 0;have bL:=Ak D.o 0;have a5:=Aa (show∀W,yG w1 W->Calls prog 132 #[.pointer (some ⟨p,0,none⟩)] W fun e w'=>∃l B m y,e=.returned (.agg #[.string C.1.name,.slice l B m])/\PS w' b G C.2/\PP w' p b S/\AZ b S w1 w'/\w'.heap[S]?=some (.cells #[.slice L i.length P,.slice K h.length O,.slice J f.length N,.slice M j.length Q,y] 141 (0,0))/\w'.ownsRow S 132 1 y c.names.length (Bn c.names)/\DP S w' (C.1,Value.slice l B m)/\w'.cell? ⟨S,0,none⟩=some (Value.slice L i.length P)/\w'.frozen? ⟨S,0,none⟩=false/\w'.ownsRow S 134 2 (Value.slice L i.length P) i.length (i.flatMap Nv)/\w1.heap.size<=w'.heap.size from fun W z=>(aE W (R.o.below z) (ah.o.below z)).mono (by
   rintro e w' ⟨u,a8,b3,cb,q⟩;have a9:=q.ps;have b9:=q.kp;have bp:=(Ag.of_below (b:=b) z).trans b9;obtain⟨l,m,rfl⟩:=An b3;have ae:=bp.at D.o (by omega);exact⟨l,_,m,Z,a8,a9,R.o.keep ah.o bp,AZ.of_keep bp ah.o.ty.choose_spec,ae,CE a7.o (ah.o.stay bp),⟨PT b3 (by have:=z.size;omega),by simp only[];omega⟩,Ac ae 0,Ak ae 0,CE au.o.own (ah.o.stay bp),bp.size⟩))
  have af:Option.some S≠(Value.slice L i.length P).ownBlock:=EA au.o.own D.o (by decide);have ag:∀k,(Value.slice L i.length P).ownBlock=some k->S<=k:=fun k am=>(au.o.own.lt k am).1;have bg:Option.some b≠(Value.slice L i.length P).ownBlock:=fun e=>by have:=ag b e.symm;omega
  have bh:Option.some G≠(Value.slice L i.length P).ownBlock:=fun e=>by have:=ag G e.symm;omega
  have bi:Option.some p≠(Value.slice L i.length P).ownBlock:=EA au.o.own R.o (by decide);obtain⟨bn,bf,bk,bl,bm⟩:=info_parts info134;clear aE;go_wp2;go_region_law (first
   |(refine step_append_lies _ (by rfl) _ _ _ (by rfl) S 134 bn _ 2 40 underlying135 bf bk bl bm rfl (by decide) _ _ _ (by rfl) (ad.alloc _) ⟨w4.heap.size,0,none⟩ 1 1 [.string C.1.name,.slice l B m] (by rfl) (by rfl) (Cz _ _ _ _ (by simp)) (Sm rfl rfl) (by decide) (by unfold maxLen;omega) (by omega) (by simp;omega) (w4.heap.size+1) (by simp) ?_;intro g cap w5 aG n bR bT;have bJ:w5.cell? ⟨S,0,none⟩=some (Value.slice L i.length P):=(n.cell_far ⟨S,0,none⟩ (by simp;omega) af).trans ((((wR w4.heap.size w4).alloc (wQ _) _).cell (show S<w4.heap.size by omega)).trans ba);have bK:w5.frozen? ⟨S,0,none⟩=false:=(n.frozen_far ⟨S,0,none⟩ (by simp;omega) af).trans ((((wR w4.heap.size w4).alloc (wQ _) _).frozen (show S<w4.heap.size by omega)).trans bb))
   |(go_simp;go_at_call 132;refine(a5.o _ ?_).mono ?_;(first|exact(wR _ _).drew|exact wR _ _);rintro e w4 ⟨l,B,m,y,rfl,U,aC,X,aD,aB,aF,ba,bb,ad,z4⟩;have n4:w4.heap.size≠S:=(by omega);have bo:S<w4.heap.size:=(by omega)))
  all_goals(
   have E:w5.heap[S]?=some (.cells #[.slice L i.length P,.slice K h.length O,.slice J f.length N,.slice M j.length Q,y] 141 (0,0)):=(n.block S (by simp;omega) af).trans ((AJ _ _ _ bo).trans aD);have a:∀T,134≠T->141≠T->Ap T S w4 (w5.setCell ⟨S,0,none⟩ (Value.slice (some ⟨g,0,none⟩) (i.length+1) cap)):=fun T r I=>((Ap.alloc _).trans (Ap.grown n (ad.alloc _) rfl r)).trans (Ap.setT E I 0 (Value.slice (some ⟨g,0,none⟩) (i.length+1) cap));have A:Ek S w4 (w5.setCell ⟨S,0,none⟩ (Value.slice (some ⟨g,0,none⟩) (i.length+1) cap)):=⟨a _ (by decide) (by decide),a _ (by decide) (by decide),a _ (by decide) (by decide),a _ (by decide) (by decide),a _ (by decide) (by decide)⟩;have H:Ek S w1 w4:=X.inner;have V:∀T,T≠215->T≠141->T≠132->134≠T->Ap T S w1 (w5.setCell ⟨S,0,none⟩ (Value.slice (some ⟨g,0,none⟩) (i.length+1) cap)):=fun T r I bd U=>(X.stay r I bd).trans (a T U (fun e=>I e.symm));have aA:=((U.alloc _).grown' n bg bh).set (F:=S) (by omega) (by omega) 0 (Value.slice (some ⟨g,0,none⟩) (i.length+1) cap);have az:=((aC.alloc _).grown' n bi).set E (by decide) 0 (Value.slice (some ⟨g,0,none⟩) (i.length+1) cap);have ax:BV (w5.setCell ⟨S,0,none⟩ (Value.slice (some ⟨g,0,none⟩) (i.length+1) cap)) S 134 2 (Value.slice (some ⟨g,0,none⟩) (i.length+1) cap) Nv (DP S) (i++[(C.1,Value.slice l B m)]):=⟨by rw[xJ,List.flatMap_append];exact CE aG (Ap.setT E (by decide) 0 (Value.slice (some ⟨g,0,none⟩) (i.length+1) cap)),fun x d=>by
    rcases yD.1 d with d|d
    ·exact DP.stays A (DP.stays H (au.o.ok x d))
    ·rw[List.mem_singleton]at d;subst d;exact DP.stays A aF⟩
   have a0:=aq.o.stays (V 149 (by decide) (by decide) (by decide) (by decide)) (fun x d=>DO.stays A (DO.stays H d));have aZ:=ap.o.stays (V 268 (by decide) (by decide) (by decide) (by decide)) (fun x d=>DN.stays A (DN.stays H d));have a2:=av.o.stays (V 271 (by decide) (by decide) (by decide) (by decide)) (fun x d=>DQ.stays A (DQ.stays H d));have ay:=CE aB (a 132 (by decide) (by decide));have bc:=((a6.o.trans X.lo).trans ((Lo.of_below ((wR w4.heap.size w4).alloc (wQ _) _)).trans (Lo.of_grown n ag))).set (wQ S) 0 (Value.slice (some ⟨g,0,none⟩) (i.length+1) cap);have aO:=Aa (show PS _ b G ao.2/\PP _ p b S/\Ff _ S ao.1/\Lo b S w _ from⟨by rw[ar.o];exact aA,az,by rw[ar.o];exact⟨(Value.slice (some ⟨g,0,none⟩) (i.length+1) cap),(.slice K h.length O),(.slice J f.length N),(.slice M j.length Q),y,(i++[(C.1,Value.slice l B m)]),h,f,j,AI E 0 (Value.slice (some ⟨g,0,none⟩) (i.length+1) cap),ax,a0,aZ,a2,ay,by rw[xY,bv.o];rfl,bu.o,bt.o,bw.o⟩,bc⟩);clear aA az ax ay a0 aZ a2 a A H V E aG n U aC X aD aB aF ad;go_wp2;go_end0;exact⟨rfl,aO.o⟩)
 by_cases al:nm s=Ng
 ·skip
  have ar:=Aa (show BA c s=({c with objs:=c.objs++[(CB (nmT s)).1],names:=c.names++[(CB (nmT s)).1.name]},(CB (nmT s)).2)from by unfold BA;rw[xG aa,xH al]);rw[wY (show¬nm s=Az _ from aa)]at bx;rw[xM (show nm s=Az _ from al)]at bz;clear aa al bA bB;generalize BA c s=ao at*;generalize nm s=bH at*;generalize nmT s=s1 at*;have aE:=fun W (aV aU aT aW Z:Value) (names:List yF) (aj:PP W p b S) (ai:PS W b G s1) (aQ:SC W S aV aU aT aW Z) (a3:W.ownsRow S 132 1 Z names.length (Bn names)) (aS:names.length<=100000)=>sH (⟨aj,ai,⟨Z,aQ,a3⟩,bS,bM,aS⟩:DC W p b S G s1 aV aU aT aW names);generalize CB s1=C at*;go_enter func83,ntmps83;go_wp2_with fail;refine ak.mono ?_;clear ak;rintro e w1 ⟨rfl,r,t⟩;have bj:AZ b S w w1:=AZ.of_keep t Y.o.ty.choose_spec;have a:∀T,T≠215->Ap T S w w1:=fun T aR=>Y.o.stay t aR;have v:Ek S w w1:=⟨a _ (by decide),a _ (by decide),a _ (by decide),a _ (by decide),a _ (by decide)⟩;have D:=Aa (t.at aM.o (by omega));have au:=Aa (aL.o.stays (a _ (by decide)) (fun x d=>DP.stays v d));have aq:=Aa (aJ.o.stays (a _ (by decide)) (fun x d=>DO.stays v d));have ap:=Aa (aH.o.stays (a _ (by decide)) (fun x d=>DN.stays v d));have av:=Aa (aN.o.stays (a _ (by decide)) (fun x d=>DQ.stays v d));have a7:=Aa (CE aI.o (a _ (by decide)));have R:=Aa (aK.o.keep Y.o t);have ah:=Aa (show PS w1 b G s1 from r);have a6:=Aa (Lo.of_keep (S:=S) t);clear r t bj a v Y aK aM aL aJ aH aN aI;have bs:=Ab D.o;have b2:=R.o.lt;have bI:w1.cell? ⟨S,1,none⟩=some (.slice K h.length O):=Ac D.o 1;have bL:=Ak D.o 1;have a5:=Aa (show∀W,yG w1 W->Calls prog 133 #[.pointer (some ⟨p,0,none⟩)] W fun e w'=>∃aX br aY l B m qL y,e=.returned (.agg #[.string C.1.name,.slice aX br aY,.slice l B m,.pointer qL])/\PS w' b G C.2/\PP w' p b S/\AZ b S w1 w'/\w'.heap[S]?=some (.cells #[.slice L i.length P,.slice K h.length O,.slice J f.length N,.slice M j.length Q,y] 141 (0,0))/\w'.ownsRow S 132 1 y (c.names++[C.1.name]).length (Bn (c.names++[C.1.name]))/\DO S w' (C.1,Value.slice aX br aY,Value.slice l B m,Value.pointer qL)/\w'.cell? ⟨S,1,none⟩=some (Value.slice K h.length O)/\w'.frozen? ⟨S,1,none⟩=false/\w'.ownsRow S 149 4 (Value.slice K h.length O) h.length (h.flatMap OX)/\w1.heap.size<=w'.heap.size from fun W z=>(aE W _ _ _ _ Z c.names (R.o.below z) (ah.o.below z) ((z.block S bs).trans D.o) (AT a7.o z) aS).mono (by
   rintro e w' ⟨b7,cl,vL,a8,a4,bG,b5,ca,b6,bE⟩;obtain⟨aX,aY,rfl⟩:=a4.slice;obtain⟨l,m,rfl⟩:=An b5;obtain⟨qL,rfl⟩:=b6.ptr;obtain⟨a9,bC,bD,y,ae,bF⟩:=bE;have aw:AZ b S w1 w':=(AZ.of_below z).trans bD;exact⟨aX,_,aY,l,_,m,qL,y,a8,a9,bC,aw,ae,bF,⟨a4.mono (by have:=z.size;omega),bG,PT b5 (by have:=z.size;omega),ca,b6.mono (by have:=z.size;omega)⟩,Ac ae 1,Ak ae 1,CE aq.o.own (aw.stay (by decide) (by decide) (by decide)),aw.size⟩))
  have af:Option.some S≠(Value.slice K h.length O).ownBlock:=EA aq.o.own D.o (by decide);have ag:∀k,(Value.slice K h.length O).ownBlock=some k->S<=k:=fun k am=>(aq.o.own.lt k am).1;have bg:Option.some b≠(Value.slice K h.length O).ownBlock:=fun e=>by have:=ag b e.symm;omega
  have bh:Option.some G≠(Value.slice K h.length O).ownBlock:=fun e=>by have:=ag G e.symm;omega
  have bi:Option.some p≠(Value.slice K h.length O).ownBlock:=EA aq.o.own R.o (by decide);obtain⟨bn,bf,bk,bl,bm⟩:=info_parts info149;clear aE;go_wp2;go_region_law (first
   |(refine step_append_lies _ (by rfl) _ _ _ (by rfl) S 149 bn _ 4 72 underlying136 bf bk bl bm rfl (by decide) _ _ _ (by rfl) (ad.alloc _) ⟨w4.heap.size,0,none⟩ 1 1 [.string C.1.name,.slice aX br aY,.slice l B m,.pointer qL] (by rfl) (by rfl) (Cz _ _ _ _ (by simp)) (pJ rfl rfl rfl rfl) (by decide) (by unfold maxLen;omega) (by omega) (by simp;omega) (w4.heap.size+1) (by simp) ?_;intro g cap w5 aG n bR bT;have bJ:w5.cell? ⟨S,1,none⟩=some (Value.slice K h.length O):=(n.cell_far ⟨S,1,none⟩ (by simp;omega) af).trans ((((wR w4.heap.size w4).alloc (wQ _) _).cell (show S<w4.heap.size by omega)).trans ba);have bK:w5.frozen? ⟨S,1,none⟩=false:=(n.frozen_far ⟨S,1,none⟩ (by simp;omega) af).trans ((((wR w4.heap.size w4).alloc (wQ _) _).frozen (show S<w4.heap.size by omega)).trans bb))
   |(go_simp;go_at_call 133;refine(a5.o _ ?_).mono ?_;(first|exact(wR _ _).drew|exact wR _ _);rintro e w4 ⟨aX,br,aY,l,B,m,qL,y,rfl,U,aC,X,aD,aB,aF,ba,bb,ad,z4⟩;have n4:w4.heap.size≠S:=(by omega);have bo:S<w4.heap.size:=(by omega)))
  all_goals(
   have E:w5.heap[S]?=some (.cells #[.slice L i.length P,.slice K h.length O,.slice J f.length N,.slice M j.length Q,y] 141 (0,0)):=(n.block S (by simp;omega) af).trans ((AJ _ _ _ bo).trans aD);have a:∀T,149≠T->141≠T->Ap T S w4 (w5.setCell ⟨S,1,none⟩ (Value.slice (some ⟨g,0,none⟩) (h.length+1) cap)):=fun T r I=>((Ap.alloc _).trans (Ap.grown n (ad.alloc _) rfl r)).trans (Ap.setT E I 1 (Value.slice (some ⟨g,0,none⟩) (h.length+1) cap));have A:Ek S w4 (w5.setCell ⟨S,1,none⟩ (Value.slice (some ⟨g,0,none⟩) (h.length+1) cap)):=⟨a _ (by decide) (by decide),a _ (by decide) (by decide),a _ (by decide) (by decide),a _ (by decide) (by decide),a _ (by decide) (by decide)⟩;have H:Ek S w1 w4:=X.inner;have V:∀T,T≠215->T≠141->T≠132->149≠T->Ap T S w1 (w5.setCell ⟨S,1,none⟩ (Value.slice (some ⟨g,0,none⟩) (h.length+1) cap)):=fun T r I bd U=>(X.stay r I bd).trans (a T U (fun e=>I e.symm));have aA:=((U.alloc _).grown' n bg bh).set (F:=S) (by omega) (by omega) 1 (Value.slice (some ⟨g,0,none⟩) (h.length+1) cap);have az:=((aC.alloc _).grown' n bi).set E (by decide) 1 (Value.slice (some ⟨g,0,none⟩) (h.length+1) cap);have ax:BV (w5.setCell ⟨S,1,none⟩ (Value.slice (some ⟨g,0,none⟩) (h.length+1) cap)) S 149 4 (Value.slice (some ⟨g,0,none⟩) (h.length+1) cap) OX (DO S) (h++[(C.1,Value.slice aX br aY,Value.slice l B m,Value.pointer qL)]):=⟨by rw[xJ,List.flatMap_append];exact CE aG (Ap.setT E (by decide) 1 (Value.slice (some ⟨g,0,none⟩) (h.length+1) cap)),fun x d=>by
    rcases yD.1 d with d|d
    ·exact DO.stays A (DO.stays H (aq.o.ok x d))
    ·rw[List.mem_singleton]at d;subst d;exact DO.stays A aF⟩
   have a1:=au.o.stays (V 134 (by decide) (by decide) (by decide) (by decide)) (fun x d=>DP.stays A (DP.stays H d));have aZ:=ap.o.stays (V 268 (by decide) (by decide) (by decide) (by decide)) (fun x d=>DN.stays A (DN.stays H d));have a2:=av.o.stays (V 271 (by decide) (by decide) (by decide) (by decide)) (fun x d=>DQ.stays A (DQ.stays H d));have ay:=CE aB (a 132 (by decide) (by decide));have bc:=((a6.o.trans X.lo).trans ((Lo.of_below ((wR w4.heap.size w4).alloc (wQ _) _)).trans (Lo.of_grown n ag))).set (wQ S) 1 (Value.slice (some ⟨g,0,none⟩) (h.length+1) cap);have aO:=Aa (show PS _ b G ao.2/\PP _ p b S/\Ff _ S ao.1/\Lo b S w _ from⟨by rw[ar.o];exact aA,az,by rw[ar.o];exact⟨(.slice L i.length P),(Value.slice (some ⟨g,0,none⟩) (h.length+1) cap),(.slice J f.length N),(.slice M j.length Q),y,i,(h++[(C.1,Value.slice aX br aY,Value.slice l B m,Value.pointer qL)]),f,j,AI E 1 (Value.slice (some ⟨g,0,none⟩) (h.length+1) cap),a1,ax,aZ,a2,ay,bv.o,by rw[xY,bu.o];rfl,bt.o,bw.o⟩,bc⟩);clear aA az ax ay a1 aZ a2 a A H V E aG n U aC X aD aB aF ad;go_wp2;go_end0;exact⟨rfl,aO.o⟩)
 by_cases aP:nm s=Oy
 ·skip
  have ar:=Aa (show BA c s=({c with ifs:=c.ifs++[⟨nm (nmT s),(CL (nmT (nmT s))).1⟩],names:=c.names++[nm (nmT s)]},(CL (nmT (nmT s))).2)from by unfold BA;rw[xG aa,xG al,xH aP]);rw[wY (show¬nm s=Az _ from aa)]at bx;rw[wY (show¬nm s=Az _ from al)]at bz;rw[xM (show nm s=Az _ from aP)]at bA;clear aa al aP bB;generalize BA c s=ao at*;generalize nm s=bH at*;generalize nmT s=s1 at*;have aE:=fun W (aV aU aT aW Z:Value) (names:List yF) (aj:PP W p b S) (ai:PS W b G s1) (aQ:SC W S aV aU aT aW Z) (a3:W.ownsRow S 132 1 Z names.length (Bn names)) (aS:names.length<=100000)=>sF (⟨aj,ai,⟨Z,aQ,a3⟩,bS,bM,aS⟩:DC W p b S G s1 aV aU aT aW names);generalize nm s1=ab at*;generalize CL (nmT s1)=C at*;go_enter func83,ntmps83;go_wp2_with fail;refine ak.mono ?_;clear ak;rintro e w1 ⟨rfl,r,t⟩;have bj:AZ b S w w1:=AZ.of_keep t Y.o.ty.choose_spec;have a:∀T,T≠215->Ap T S w w1:=fun T aR=>Y.o.stay t aR;have v:Ek S w w1:=⟨a _ (by decide),a _ (by decide),a _ (by decide),a _ (by decide),a _ (by decide)⟩;have D:=Aa (t.at aM.o (by omega));have au:=Aa (aL.o.stays (a _ (by decide)) (fun x d=>DP.stays v d));have aq:=Aa (aJ.o.stays (a _ (by decide)) (fun x d=>DO.stays v d));have ap:=Aa (aH.o.stays (a _ (by decide)) (fun x d=>DN.stays v d));have av:=Aa (aN.o.stays (a _ (by decide)) (fun x d=>DQ.stays v d));have a7:=Aa (CE aI.o (a _ (by decide)));have R:=Aa (aK.o.keep Y.o t);have ah:=Aa (show PS w1 b G s1 from r);have a6:=Aa (Lo.of_keep (S:=S) t);clear r t bj a v Y aK aM aL aJ aH aN aI;have bs:=Ab D.o;have b2:=R.o.lt;have bI:w1.cell? ⟨S,2,none⟩=some (.slice J f.length N):=Ac D.o 2;have bL:=Ak D.o 2;have a5:=Aa (show∀W,yG w1 W->Calls prog 134 #[.pointer (some ⟨p,0,none⟩)] W fun e w'=>∃l B m y,e=.returned (.agg #[.string ab,.slice l B m])/\PS w' b G C.2/\PP w' p b S/\AZ b S w1 w'/\w'.heap[S]?=some (.cells #[.slice L i.length P,.slice K h.length O,.slice J f.length N,.slice M j.length Q,y] 141 (0,0))/\w'.ownsRow S 132 1 y (c.names++[ab]).length (Bn (c.names++[ab]))/\DN S w' ((⟨ab,C.1⟩:At),Value.slice l B m)/\w'.cell? ⟨S,2,none⟩=some (Value.slice J f.length N)/\w'.frozen? ⟨S,2,none⟩=false/\w'.ownsRow S 268 2 (Value.slice J f.length N) f.length (f.flatMap OW)/\w1.heap.size<=w'.heap.size from fun W z=>(aE W _ _ _ _ Z c.names (R.o.below z) (ah.o.below z) ((z.block S bs).trans D.o) (AT a7.o z) aS).mono (by
   rintro e w' ⟨b7,a8,a4,bG,bE⟩;obtain⟨l,m,rfl⟩:=a4.slice;obtain⟨a9,bC,bD,y,ae,bF⟩:=bE;have aw:AZ b S w1 w':=(AZ.of_below z).trans bD;exact⟨l,_,m,y,a8,a9,bC,aw,ae,bF,⟨a4.mono (by have:=z.size;omega),bG⟩,Ac ae 2,Ak ae 2,CE ap.o.own (aw.stay (by decide) (by decide) (by decide)),aw.size⟩))
  have af:Option.some S≠(Value.slice J f.length N).ownBlock:=EA ap.o.own D.o (by decide);have ag:∀k,(Value.slice J f.length N).ownBlock=some k->S<=k:=fun k am=>(ap.o.own.lt k am).1;have bg:Option.some b≠(Value.slice J f.length N).ownBlock:=fun e=>by have:=ag b e.symm;omega
  have bh:Option.some G≠(Value.slice J f.length N).ownBlock:=fun e=>by have:=ag G e.symm;omega
  have bi:Option.some p≠(Value.slice J f.length N).ownBlock:=EA ap.o.own R.o (by decide);obtain⟨bn,bf,bk,bl,bm⟩:=info_parts info268;clear aE;go_wp2;go_region_law (first
   |(refine step_append_lies _ (by rfl) _ _ _ (by rfl) S 268 bn _ 2 40 underlying137 bf bk bl bm rfl (by decide) _ _ _ (by rfl) (ad.alloc _) ⟨w4.heap.size,0,none⟩ 1 1 [.string ab,.slice l B m] (by rfl) (by rfl) (Cz _ _ _ _ (by simp)) (Sm rfl rfl) (by decide) (by unfold maxLen;omega) (by omega) (by simp;omega) (w4.heap.size+1) (by simp) ?_;intro g cap w5 aG n bR bT;have bJ:w5.cell? ⟨S,2,none⟩=some (Value.slice J f.length N):=(n.cell_far ⟨S,2,none⟩ (by simp;omega) af).trans ((((wR w4.heap.size w4).alloc (wQ _) _).cell (show S<w4.heap.size by omega)).trans ba);have bK:w5.frozen? ⟨S,2,none⟩=false:=(n.frozen_far ⟨S,2,none⟩ (by simp;omega) af).trans ((((wR w4.heap.size w4).alloc (wQ _) _).frozen (show S<w4.heap.size by omega)).trans bb))
   |(go_simp;go_at_call 134;refine(a5.o _ ?_).mono ?_;(first|exact(wR _ _).drew|exact wR _ _);rintro e w4 ⟨l,B,m,y,rfl,U,aC,X,aD,aB,aF,ba,bb,ad,z4⟩;have n4:w4.heap.size≠S:=(by omega);have bo:S<w4.heap.size:=(by omega)))
  all_goals(
   have E:w5.heap[S]?=some (.cells #[.slice L i.length P,.slice K h.length O,.slice J f.length N,.slice M j.length Q,y] 141 (0,0)):=(n.block S (by simp;omega) af).trans ((AJ _ _ _ bo).trans aD);have a:∀T,268≠T->141≠T->Ap T S w4 (w5.setCell ⟨S,2,none⟩ (Value.slice (some ⟨g,0,none⟩) (f.length+1) cap)):=fun T r I=>((Ap.alloc _).trans (Ap.grown n (ad.alloc _) rfl r)).trans (Ap.setT E I 2 (Value.slice (some ⟨g,0,none⟩) (f.length+1) cap));have A:Ek S w4 (w5.setCell ⟨S,2,none⟩ (Value.slice (some ⟨g,0,none⟩) (f.length+1) cap)):=⟨a _ (by decide) (by decide),a _ (by decide) (by decide),a _ (by decide) (by decide),a _ (by decide) (by decide),a _ (by decide) (by decide)⟩;have H:Ek S w1 w4:=X.inner;have V:∀T,T≠215->T≠141->T≠132->268≠T->Ap T S w1 (w5.setCell ⟨S,2,none⟩ (Value.slice (some ⟨g,0,none⟩) (f.length+1) cap)):=fun T r I bd U=>(X.stay r I bd).trans (a T U (fun e=>I e.symm));have aA:=((U.alloc _).grown' n bg bh).set (F:=S) (by omega) (by omega) 2 (Value.slice (some ⟨g,0,none⟩) (f.length+1) cap);have az:=((aC.alloc _).grown' n bi).set E (by decide) 2 (Value.slice (some ⟨g,0,none⟩) (f.length+1) cap);have ax:BV (w5.setCell ⟨S,2,none⟩ (Value.slice (some ⟨g,0,none⟩) (f.length+1) cap)) S 268 2 (Value.slice (some ⟨g,0,none⟩) (f.length+1) cap) OW (DN S) (f++[((⟨ab,C.1⟩:At),Value.slice l B m)]):=⟨by rw[xJ,List.flatMap_append];exact CE aG (Ap.setT E (by decide) 2 (Value.slice (some ⟨g,0,none⟩) (f.length+1) cap)),fun x d=>by
    rcases yD.1 d with d|d
    ·exact DN.stays A (DN.stays H (ap.o.ok x d))
    ·rw[List.mem_singleton]at d;subst d;exact DN.stays A aF⟩
   have a1:=au.o.stays (V 134 (by decide) (by decide) (by decide) (by decide)) (fun x d=>DP.stays A (DP.stays H d));have a0:=aq.o.stays (V 149 (by decide) (by decide) (by decide) (by decide)) (fun x d=>DO.stays A (DO.stays H d));have a2:=av.o.stays (V 271 (by decide) (by decide) (by decide) (by decide)) (fun x d=>DQ.stays A (DQ.stays H d));have ay:=CE aB (a 132 (by decide) (by decide));have bc:=((a6.o.trans X.lo).trans ((Lo.of_below ((wR w4.heap.size w4).alloc (wQ _) _)).trans (Lo.of_grown n ag))).set (wQ S) 2 (Value.slice (some ⟨g,0,none⟩) (f.length+1) cap);have aO:=Aa (show PS _ b G ao.2/\PP _ p b S/\Ff _ S ao.1/\Lo b S w _ from⟨by rw[ar.o];exact aA,az,by rw[ar.o];exact⟨(.slice L i.length P),(.slice K h.length O),(Value.slice (some ⟨g,0,none⟩) (f.length+1) cap),(.slice M j.length Q),y,i,h,(f++[((⟨ab,C.1⟩:At),Value.slice l B m)]),j,AI E 2 (Value.slice (some ⟨g,0,none⟩) (f.length+1) cap),a1,a0,ax,a2,ay,bv.o,bu.o,by rw[xY,bt.o];rfl,bw.o⟩,bc⟩);clear aA az ax ay a1 a0 a2 a A H V E aG n U aC X aD aB aF ad;go_wp2;go_end0;exact⟨rfl,aO.o⟩)
 by_cases bq:nm s=OC
 ·skip
  have ar:=Aa (show BA c s=({c with uns:=c.uns++[⟨nm (nmT s),(EW (nmT (nmT s))).1⟩],names:=c.names++[nm (nmT s)]},(EW (nmT (nmT s))).2)from by unfold BA;rw[xG aa,xG al,xG aP,xH bq]);rw[wY (show¬nm s=Az _ from aa)]at bx;rw[wY (show¬nm s=Az _ from al)]at bz;rw[wY (show¬nm s=Az _ from aP)]at bA;rw[xM (show nm s=Az _ from bq)]at bB;clear aa al aP bq;generalize BA c s=ao at*;generalize nm s=bH at*;generalize nmT s=s1 at*;have aE:=fun W (aV aU aT aW Z:Value) (names:List yF) (aj:PP W p b S) (ai:PS W b G s1) (aQ:SC W S aV aU aT aW Z) (a3:W.ownsRow S 132 1 Z names.length (Bn names)) (aS:names.length<=100000)=>sN (⟨aj,ai,⟨Z,aQ,a3⟩,bS,bM,aS⟩:DC W p b S G s1 aV aU aT aW names);generalize nm s1=ab at*;generalize EW (nmT s1)=C at*;go_enter func83,ntmps83;go_wp2_with fail;refine ak.mono ?_;clear ak;rintro e w1 ⟨rfl,r,t⟩;have bj:AZ b S w w1:=AZ.of_keep t Y.o.ty.choose_spec;have a:∀T,T≠215->Ap T S w w1:=fun T aR=>Y.o.stay t aR;have v:Ek S w w1:=⟨a _ (by decide),a _ (by decide),a _ (by decide),a _ (by decide),a _ (by decide)⟩;have D:=Aa (t.at aM.o (by omega));have au:=Aa (aL.o.stays (a _ (by decide)) (fun x d=>DP.stays v d));have aq:=Aa (aJ.o.stays (a _ (by decide)) (fun x d=>DO.stays v d));have ap:=Aa (aH.o.stays (a _ (by decide)) (fun x d=>DN.stays v d));have av:=Aa (aN.o.stays (a _ (by decide)) (fun x d=>DQ.stays v d));have a7:=Aa (CE aI.o (a _ (by decide)));have R:=Aa (aK.o.keep Y.o t);have ah:=Aa (show PS w1 b G s1 from r);have a6:=Aa (Lo.of_keep (S:=S) t);clear r t bj a v Y aK aM aL aJ aH aN aI;have bs:=Ab D.o;have b2:=R.o.lt;have bI:w1.cell? ⟨S,3,none⟩=some (.slice M j.length Q):=Ac D.o 3;have bL:=Ak D.o 3;have a5:=Aa (show∀W,yG w1 W->Calls prog 135 #[.pointer (some ⟨p,0,none⟩)] W fun e w'=>∃l B m y,e=.returned (.agg #[.string ab,.slice l B m])/\PS w' b G C.2/\PP w' p b S/\AZ b S w1 w'/\w'.heap[S]?=some (.cells #[.slice L i.length P,.slice K h.length O,.slice J f.length N,.slice M j.length Q,y] 141 (0,0))/\w'.ownsRow S 132 1 y (c.names++[ab]).length (Bn (c.names++[ab]))/\DQ S w' ((⟨ab,C.1⟩:Aw),Value.slice l B m)/\w'.cell? ⟨S,3,none⟩=some (Value.slice M j.length Q)/\w'.frozen? ⟨S,3,none⟩=false/\w'.ownsRow S 271 2 (Value.slice M j.length Q) j.length (j.flatMap OY)/\w1.heap.size<=w'.heap.size from fun W z=>(aE W _ _ _ _ Z c.names (R.o.below z) (ah.o.below z) ((z.block S bs).trans D.o) (AT a7.o z) aS).mono (by
   rintro e w' ⟨b7,a8,a4,bG,bE⟩;obtain⟨l,m,rfl⟩:=An a4;obtain⟨a9,bC,bD,y,ae,bF⟩:=bE;have aw:AZ b S w1 w':=(AZ.of_below z).trans bD;exact⟨l,_,m,y,a8,a9,bC,aw,ae,bF,⟨PT a4 (by have:=z.size;omega),bG⟩,Ac ae 3,Ak ae 3,CE av.o.own (aw.stay (by decide) (by decide) (by decide)),aw.size⟩))
  have af:Option.some S≠(Value.slice M j.length Q).ownBlock:=EA av.o.own D.o (by decide);have ag:∀k,(Value.slice M j.length Q).ownBlock=some k->S<=k:=fun k am=>(av.o.own.lt k am).1;have bg:Option.some b≠(Value.slice M j.length Q).ownBlock:=fun e=>by have:=ag b e.symm;omega
  have bh:Option.some G≠(Value.slice M j.length Q).ownBlock:=fun e=>by have:=ag G e.symm;omega
  have bi:Option.some p≠(Value.slice M j.length Q).ownBlock:=EA av.o.own R.o (by decide);obtain⟨bn,bf,bk,bl,bm⟩:=info_parts info271;clear aE;go_wp2;go_region_law (first
   |(refine step_append_lies _ (by rfl) _ _ _ (by rfl) S 271 bn _ 2 40 underlying138 bf bk bl bm rfl (by decide) _ _ _ (by rfl) (ad.alloc _) ⟨w4.heap.size,0,none⟩ 1 1 [.string ab,.slice l B m] (by rfl) (by rfl) (Cz _ _ _ _ (by simp)) (Sm rfl rfl) (by decide) (by unfold maxLen;omega) (by omega) (by simp;omega) (w4.heap.size+1) (by simp) ?_;intro g cap w5 aG n bR bT;have bJ:w5.cell? ⟨S,3,none⟩=some (Value.slice M j.length Q):=(n.cell_far ⟨S,3,none⟩ (by simp;omega) af).trans ((((wR w4.heap.size w4).alloc (wQ _) _).cell (show S<w4.heap.size by omega)).trans ba);have bK:w5.frozen? ⟨S,3,none⟩=false:=(n.frozen_far ⟨S,3,none⟩ (by simp;omega) af).trans ((((wR w4.heap.size w4).alloc (wQ _) _).frozen (show S<w4.heap.size by omega)).trans bb))
   |(go_simp;go_at_call 135;refine(a5.o _ ?_).mono ?_;(first|exact(wR _ _).drew|exact wR _ _);rintro e w4 ⟨l,B,m,y,rfl,U,aC,X,aD,aB,aF,ba,bb,ad,z4⟩;have n4:w4.heap.size≠S:=(by omega);have bo:S<w4.heap.size:=(by omega)))
  all_goals(
   have E:w5.heap[S]?=some (.cells #[.slice L i.length P,.slice K h.length O,.slice J f.length N,.slice M j.length Q,y] 141 (0,0)):=(n.block S (by simp;omega) af).trans ((AJ _ _ _ bo).trans aD);have a:∀T,271≠T->141≠T->Ap T S w4 (w5.setCell ⟨S,3,none⟩ (Value.slice (some ⟨g,0,none⟩) (j.length+1) cap)):=fun T r I=>((Ap.alloc _).trans (Ap.grown n (ad.alloc _) rfl r)).trans (Ap.setT E I 3 (Value.slice (some ⟨g,0,none⟩) (j.length+1) cap));have A:Ek S w4 (w5.setCell ⟨S,3,none⟩ (Value.slice (some ⟨g,0,none⟩) (j.length+1) cap)):=⟨a _ (by decide) (by decide),a _ (by decide) (by decide),a _ (by decide) (by decide),a _ (by decide) (by decide),a _ (by decide) (by decide)⟩;have H:Ek S w1 w4:=X.inner;have V:∀T,T≠215->T≠141->T≠132->271≠T->Ap T S w1 (w5.setCell ⟨S,3,none⟩ (Value.slice (some ⟨g,0,none⟩) (j.length+1) cap)):=fun T r I bd U=>(X.stay r I bd).trans (a T U (fun e=>I e.symm));have aA:=((U.alloc _).grown' n bg bh).set (F:=S) (by omega) (by omega) 3 (Value.slice (some ⟨g,0,none⟩) (j.length+1) cap);have az:=((aC.alloc _).grown' n bi).set E (by decide) 3 (Value.slice (some ⟨g,0,none⟩) (j.length+1) cap);have ax:BV (w5.setCell ⟨S,3,none⟩ (Value.slice (some ⟨g,0,none⟩) (j.length+1) cap)) S 271 2 (Value.slice (some ⟨g,0,none⟩) (j.length+1) cap) OY (DQ S) (j++[((⟨ab,C.1⟩:Aw),Value.slice l B m)]):=⟨by rw[xJ,List.flatMap_append];exact CE aG (Ap.setT E (by decide) 3 (Value.slice (some ⟨g,0,none⟩) (j.length+1) cap)),fun x d=>by
    rcases yD.1 d with d|d
    ·exact DQ.stays A (DQ.stays H (av.o.ok x d))
    ·rw[List.mem_singleton]at d;subst d;exact DQ.stays A aF⟩
   have a1:=au.o.stays (V 134 (by decide) (by decide) (by decide) (by decide)) (fun x d=>DP.stays A (DP.stays H d));have a0:=aq.o.stays (V 149 (by decide) (by decide) (by decide) (by decide)) (fun x d=>DO.stays A (DO.stays H d));have aZ:=ap.o.stays (V 268 (by decide) (by decide) (by decide) (by decide)) (fun x d=>DN.stays A (DN.stays H d));have ay:=CE aB (a 132 (by decide) (by decide));have bc:=((a6.o.trans X.lo).trans ((Lo.of_below ((wR w4.heap.size w4).alloc (wQ _) _)).trans (Lo.of_grown n ag))).set (wQ S) 3 (Value.slice (some ⟨g,0,none⟩) (j.length+1) cap);have aO:=Aa (show PS _ b G ao.2/\PP _ p b S/\Ff _ S ao.1/\Lo b S w _ from⟨by rw[ar.o];exact aA,az,by rw[ar.o];exact⟨(.slice L i.length P),(.slice K h.length O),(.slice J f.length N),(Value.slice (some ⟨g,0,none⟩) (j.length+1) cap),y,i,h,f,(j++[((⟨ab,C.1⟩:Aw),Value.slice l B m)]),AI E 3 (Value.slice (some ⟨g,0,none⟩) (j.length+1) cap),a1,a0,aZ,ax,ay,bv.o,bu.o,bt.o,by rw[xY,bw.o];rfl⟩,bc⟩);clear aA az ax ay a1 a0 aZ a A H V E aG n U aC X aD aB aF ad;go_wp2;go_end0;exact⟨rfl,aO.o⟩)
 rw[show BA c s=(c,none)from by unfold BA;rw[xG aa,xG al,xG aP,xG bq]];rw[wY (show¬nm s=Az _ from aa)]at bx;rw[wY (show¬nm s=Az _ from al)]at bz;rw[wY (show¬nm s=Az _ from aP)]at bA;rw[wY (show¬nm s=Az _ from bq)]at bB;clear aa al aP bq;generalize nm s=bH at*;generalize nmT s=s1 at*;go_enter func83,ntmps83;go_wp2_with fail;refine ak.mono ?_;clear ak;rintro e w1 ⟨rfl,r,t⟩;have R:=Aa (aK.o.keep Y.o t);have c1:=R.o.c0;have b4:=Gc w1 b G s1 r;have ah:=Aa r;have b8:=Aa t;clear r t;go_wp2_with fail;refine b4.mono ?_;clear b4;rintro e w2 ⟨rfl,I,k2⟩;have am:=b8.o.trans k2;have a:∀T,T≠215->Ap T S w w2:=fun T aR=>Y.o.stay am aR;have v:Ek S w w2:=⟨a _ (by decide),a _ (by decide),a _ (by decide),a _ (by decide),a _ (by decide)⟩;have aO:=Aa (show PS w2 b G none/\PP w2 p b S/\Ff w2 S c/\Lo b S w w2 from⟨I,R.o.keep ah.o k2,(show Ff w2 S c from⟨_,_,_,_,Z,i,h,f,j,am.at aM.o (by omega),aL.o.stays (a _ (by decide)) (fun x d=>DP.stays v d),aJ.o.stays (a _ (by decide)) (fun x d=>DO.stays v d),aH.o.stays (a _ (by decide)) (fun x d=>DN.stays v d),aN.o.stays (a _ (by decide)) (fun x d=>DQ.stays v d),CE aI.o (a _ (by decide)),bv.o,bu.o,bt.o,bw.o⟩),Lo.of_keep am⟩);clear I k2 am a v;go_wp2;go_end0;exact⟨rfl,aO.o⟩
theorem Wm:∀(f:Nat) (s:St),ln (DR f s).2<=ln s
 |0,s=>wQ _
 |f+1,s=>by
  rw[DR];split
  ·exact wV (Wm f _) (Bg s)
  ·exact wQ _
theorem mX(s:St):ln (ED s).2<=ln s:=by
 unfold ED;split
 ·unfold Me
  simp only[];split
  ·simp[ln]
  ·exact wV (Wm _ _) (wV (BI _) (Bg s))
 ·exact Bg s
theorem mT(s:St):ln (FI s).2<=ln s:=by
 unfold FI;split
 ·exact wV (Wl _ _) (wV (Bg _) (BI s))
 ·exact wQ _
theorem mY(s:St):ln (Ih s).2<=ln s:=by
 unfold Ih;split
 ·refine wV (DA _ _) (wV (Pp _ _ (Pp _ _ (RZ _)) _) ?_)
  unfold JM;exact wV (DA _ _) (wV (DA _ _) (BI s))
 ·exact wQ _
theorem mW(s:St):ln (CB s).2<=ln s:=by
 unfold CB;dsimp only;exact wV (Wj _) (wV (mY _) (wV (mT _) (Bg s)))
theorem Wr:∀(f:Nat) (s:St),ln (DY f s).2<=ln s
 |0,s=>wQ _
 |f+1,s=>by
  rw[DY];split
  ·exact wV (Wr f _) (wV (Bg _) (BI s))
  ·exact wQ _
theorem mV(s:St):ln (EW s).2<=ln s:=by
 unfold EW;exact wV (Wr _ _) (wV (Bg _) (DA _ _))
theorem Wi(c:Be)(s:St):ln (BA c s).2<=ln (nmT s):=by
 unfold BA;split
 ·dsimp only
  exact mX _
 ·split
  ·dsimp only
   exact mW _
  ·split
   ·dsimp only
    exact wV (Wj _) (Bg _)
   ·split
    ·dsimp only
     exact wV (mV _) (Bg _)
    ·exact wZ _
def Ko(c:Be)(n:Nat):Prop:=c.roles.length<=n/\c.objs.length<=n/\c.ifs.length<=n/\c.uns.length<=n/\c.names.length<=n
theorem VW(c:Be)(s:St)(n:Nat)(a:Ko c n):Ko (BA c s).1 (n+1):=by
 obtain⟨b,d,e,f,g⟩:=a;unfold BA Ko;split
 ·refine⟨?_,?_,?_,?_,?_⟩<;>simp<;>omega
 ·split
  ·refine⟨?_,?_,?_,?_,?_⟩<;>simp<;>omega
  ·split
   ·refine⟨?_,?_,?_,?_,?_⟩<;>simp<;>omega
   ·split
    ·refine⟨?_,?_,?_,?_,?_⟩<;>simp<;>omega
    ·refine⟨?_,?_,?_,?_,?_⟩<;>simp only[]<;>omega
def EC:Nat->Be->St->Be×St
 |0,c,s=>(c,s)
 |f+1,c,s=>if Co s=true then(c,s)else EC f (BA c s).1 (BA c s).2
def Ga:Be:=⟨[],[],[],[],[]⟩
def Ao(s:St):Be×St:=EC 801 (BA Ga s).1 (BA Ga s).2
theorem qA(f:Nat)(c:Be)(s:St)(a:Co s=true):EC f c s=(c,s):=by
 cases f with
 |zero=>rfl
 |succ f=>rw[EC,xH a]
theorem bG(s:St)(a:Co s=false):s.isNone=false:=by
 match s,a with
 |some l,_=>rfl
theorem Ff.below{w w':World}{S:Nat}{c:Be}(j:Ff w S c)(hb:yG w w'):Ff w' S c:=by
 obtain⟨u,t,r,v,s,h,g,f,i,e,p,n,k,q,l,m⟩:=j.ex;have d:Ek S w w':=(AZ.of_below (b:=0) (S:=0) hb).inner;exact⟨u,t,r,v,s,h,g,f,i,(hb.block S (Ab e)).trans e,p.stays (Ap.of_below hb) (fun x a=>DP.stays d a),n.stays (Ap.of_below hb) (fun x a=>DO.stays d a),k.stays (Ap.of_below hb) (fun x a=>DN.stays d a),q.stays (Ap.of_below hb) (fun x a=>DQ.stays d a),AT l hb,m⟩
theorem BV.nil{β:Type}(w:World)(B e size:Nat)(flat:β->List Value)(ok:World->β->Prop):BV w B e size (.slice none 0 0) flat ok []:=⟨xF _ _ _ _,fun x a=>by cases a⟩
theorem qH(x:yF)(w:World)(hs:x.size<=maxLen):
 Calls prog 52 #[.string x] w fun e w'=>∃S,e=.returned (.tuple #[.pointer (some ⟨S,0,none⟩),.bool (Ec (Ao (Ad x)).2)])/\Ff w' S (Ao (Ad x)).1/\Ko (Ao (Ad x)).1 804/\yG w w':=by
 have g:=Qd x w hs;have D:=Aa (show Ao (Ad x)=EC 801 (BA Ga (Ad x)).1 (BA Ga (Ad x)).2 from rfl);generalize Ao (Ad x)=Y at*;generalize Ad x=r at*;go_enter func52,ntmps52;go_wp2_with fail;refine g.mono ?_;clear g;rintro e w1 ⟨b,G,rfl,hb,l,z⟩;have U:=l.lt;have R:=l.glt;have n:=l.below (Jk w1 (.cells #[.slice none 0 0,.slice none 0 0,.slice none 0 0,.slice none 0 0,.slice none 0 0] 141) (.cells #[.pointer (some ⟨b,0,none⟩),.pointer (some ⟨w1.heap.size,0,none⟩)] 199));have q:Ff ((w1.alloc (.cells #[.slice none 0 0,.slice none 0 0,.slice none 0 0,.slice none 0 0,.slice none 0 0] 141)).alloc (.cells #[.pointer (some ⟨b,0,none⟩),.pointer (some ⟨w1.heap.size,0,none⟩)] 199)) w1.heap.size Ga:=⟨_,_,_,_,_,[],[],[],[],LA _ _ _,BV.nil _ _ _ _ _ _,BV.nil _ _ _ _ _ _,BV.nil _ _ _ _ _ _,BV.nil _ _ _ _ _ _,xF _ _ _ _,rfl,rfl,rfl,rfl⟩;have p:PP ((w1.alloc (.cells #[.slice none 0 0,.slice none 0 0,.slice none 0 0,.slice none 0 0,.slice none 0 0] 141)).alloc (.cells #[.pointer (some ⟨b,0,none⟩),.pointer (some ⟨w1.heap.size,0,none⟩)] 199)) (w1.heap.size+1) b w1.heap.size:=MC _ _ _;have hd:=Yo _ (w1.heap.size+1) b w1.heap.size G r Ga p n q U R (by decide) (by decide) (by decide) (by decide) (by decide);have ai:=l.len;have af:=Wi Ga r;have al:=Bg r;have T:=VW Ga r 0 ⟨wQ _,wQ _,wQ _,wQ _,wQ _⟩;have C:=Aa T;have B:=Aa (z.trans ((Jk w1 (.cells #[.slice none 0 0,.slice none 0 0,.slice none 0 0,.slice none 0 0,.slice none 0 0] 141) (.cells #[.pointer (some ⟨b,0,none⟩),.pointer (some ⟨w1.heap.size,0,none⟩)] 199)).mono z.size));have V:=z.size;clear l n q p z T;generalize BA Ga r=cs at*;obtain⟨c1,s1⟩:=cs;simp only[]at hd C D af;go_wp2_with fail;refine hd.mono ?_;clear hd;rintro e w2 ⟨rfl,n,p,q,L⟩;have I:=Aa (B.o.trans (L.below hb V B.o.size));clear L B;go_wp2;go_loopg [] (ln s1) (fun k wr=>∃(c:Be) (a:St) (f m:Nat),ln a<=k/\ln a<=f/\PS wr b G a/\PP wr (w1.heap.size+1) b w1.heap.size/\Ff wr w1.heap.size c/\Ko c m/\m+ln a<=804/\yG w wr/\EC 801 c1 s1=EC f c a)
 case atStart=>exact⟨c1,s1,801,1,wQ _,by omega,n,p,q,C.o,by omega,I.o,rfl⟩
 case round=>
  clear n p q C;obtain⟨c,a,f,m,ak,aj,F,A,O,d,am,Q,hrel⟩:=hrel;have s:=Aa Q;clear Q I;have u:=Aa hrel;have H:=Aa F;have ab:=Aa A;have E:=Aa O;have h:=Aa d;have c3:=A.c0;have ag:=A.c1;have g:=JA wr b G a F;clear F A O d hrel;cases j:Co a
  ·rw[j]at g
   have ah:=mP a (bG a j);have ae:=Wi c a;obtain⟨y,rfl⟩:∃y,f=y+1:=⟨f-1,by omega⟩;have t:=Aa (show EC 801 c1 s1=EC y (BA c a).1 (BA c a).2 from by rw[u.o,EC,xG (by rw[j];simp)]);have d:=h.o;have hd:=Yo wr (w1.heap.size+1) b w1.heap.size G a c ab.o H.o E.o U R (wV d.1 (by omega)) (wV d.2.1 (by omega)) (wV d.2.2.1 (by omega)) (wV d.2.2.2.1 (by omega)) (wV d.2.2.2.2 (by omega));have J:=Aa (VW c a m d);clear j u d;generalize BA c a=cs at*;obtain⟨c2,X⟩:=cs;simp only[]at hd J t ae;go_wp2_with fail;refine g.mono ?_;clear g;rintro e w3 ⟨rfl,i⟩;have i:=i.symm;subst i;go_wp2_with fail;refine hd.mono ?_;clear hd;rintro e w4 ⟨rfl,K,N,P,M⟩;have v:=Aa (xZ K (xZ N (xZ P (s.o.trans (M.below hb V s.o.size)))));clear K N P M;go_wp2;go_roundg (ln X)
   case measure=>omega
   case rel=>exact⟨c2,X,y,m+1,wQ _,by omega,v.o.1,v.o.2.1,v.o.2.2.1,J.o,by omega,v.o.2.2.2,t.o⟩
  ·rw[j]at g
   have t:=Aa (show Y=(c,a)from by rw[D.o,u.o,qA _ _ _ j]);have aa:=Aa (show Ko c 804 from⟨wV h.o.1 (by omega),wV h.o.2.1 (by omega),wV h.o.2.2.1 (by omega),wV h.o.2.2.2.1 (by omega),wV h.o.2.2.2.2 (by omega)⟩);clear j u D h;go_wp2_with fail;refine g.mono ?_;clear g;rintro e w3 ⟨rfl,i⟩;have i:=i.symm;subst i;have Z:=Aa (fun(W:World) (ad:yG wr W)=>Nq W b G a (H.o.below ad));go_wp2;go_region_with (go_at_call 64;refine(Z.o _ ?_).mono ?_;(first|exact(wR _ _).drew|exact wR _ _);rintro e w4 ⟨rfl,rfl⟩);all_goals(
    go_wp2;go_ret2;rw[t.o];exact⟨_,rfl,by first|exact E.o.below (wR _ _).drew|exact E.o,aa.o,by first|exact s.o.drew|exact s.o⟩)
end Go.Proofs.YtogdodlibkckkaaGreatDoor
