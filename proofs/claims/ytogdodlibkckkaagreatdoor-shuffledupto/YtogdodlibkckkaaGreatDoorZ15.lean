import Derived.Test.YtogdodlibkckkaaGreatDoorZ14
namespace Go.Proofs.YtogdodlibkckkaaGreatDoor
set_option maxHeartbeats 20000000
set_option maxRecDepth 100000
open Go.RowKit Tryz
section
variable {w:World} {B0 p b q G d:Nat} {vO vF:Value} {ps:List Nat} {s:St}
theorem rT(part:Nat->yF->St->List Ai×St)(m:QS w B0 p b q G s d vO vF ps)(ar:∀W typ V,ln V<=ln s->Oo W B0 p b q G d vO vF ps typ V (part ps.length typ V)):
 Calls prog 207 #[.pointer (some ⟨p,0,none⟩)] w fun e w'=>Hp w w' B0 p b q G d vO vF ps (JN part ps.length s) e:=by
 obtain⟨u,Q⟩:∃u:Value,u=.pointer (some ⟨q,0,none⟩):=⟨_,rfl⟩;obtain⟨v,R⟩:∃v:Value,v=.int .i64 d:=⟨_,rfl⟩;have aj:=Aa (xZ Q R);have H:LQ w w p b G u v s:=by rw[Q,R];exact m.lq1
 have ah:=Aa m;have ae:=Aa ar;have M:=Aa H;have aW:=m.rd.lt;have aX:=H.lt;have aq:=m.lt;have c:=H.c0;have r:=Aa (JN.eq_1 part ps.length s);generalize JN part ps.length s=aC at*;have ai:=Aa (fun W (O:LQ w W p b G u v s)=>Lw W b G s Dw O.ps);have g:=Aa (Gd.eq_1 s);have aO:ln (Gd s).2<=ln s:=by
  rw[g.o];split
  ·exact wV (Bg _) (BI _)
  ·exact wQ _
 generalize Gd s=aK at*;obtain⟨typ,l⟩:=aK;simp only[]at r aO;have I:=Aa (fun W (O:LQ w W p b G u v l)=>SG O.one);have aP:=Mp 801 l;generalize qConds 801 l=aJ at*;obtain⟨j,X⟩:=aJ;simp only[]at r I aP;clear m H Q R ar;go_enter func207,ntmps207;go_wp2_with fail;refine(ai.o _ (M.o.al _)).mono ?_;rintro _ w1 ⟨rfl,N,S⟩;have f:=Aa ((M.o.al _).call N S);have t:=Aa (S.at (wX w _) (by omega));have aN:=Ab t.o;have c1:=f.o.c0;have aQ:=f.o.lt;have aL:=N.lt;have aY:w.heap.size<=w1.heap.size:=Nat.le_of_lt aN;clear N S ai M
 go_upto_if 8 with fail
 go_cut [3] (fun v3 wc=>v3=.string typ/\LQ w wc p b G u v l/\wc.heap[w.heap.size]?=some (.cells #[.int .i64 0,.string ⟨#[]⟩,.string ⟨#[]⟩,.slice none 0 0,.slice none 0 0,.pointer none] 229 (0,0)))
 case first=>
  cases ao:Bu s Dw
  ·rw[ao]at f g
   obtain⟨A,C⟩:typ=⟨#[]⟩/\l=s:=by have:=g.o;simpa using this
   subst A C;go_wp2;go_meet;exact⟨rfl,f.o,t.o⟩
  ·rw[ao]at f g
   obtain⟨A,C⟩:typ=nm (tl s)/\l=nmT (tl s):=by have:=g.o;simpa using this
   have f:=Aa (show LQ w w1 p b G u v (tl s)from f.o);have aa:=Aa (Eh w1 b G (tl s) f.o.ps);rw[<-A,<-C]at aa;clear A C g;go_wp2_with fail;refine aa.o.mono ?_;rintro _ w3 ⟨rfl,ap,T⟩;have x:=Aa (T.at t.o (by omega));have h:=Aa (f.o.call ap T);clear ap T;go_wp2;go_meet;exact⟨rfl,h.o,x.o⟩
 case rest=>
 obtain⟨rfl,az,au⟩:=hcut;have h:=Aa az;have x:=Aa au;clear az au g t f c1 aQ aL;go_wp2_with fail;refine(I.o _ h.o).mono ?_;rintro _ w6 ⟨aZ,rfl,P,aM,U⟩;obtain⟨y,z,rfl⟩:=An P;have L:=Aa (U.kp.at x.o (by omega));have ad:=Aa (FE P h.o.kp.size);have am:=Aa (h.o.tr U);clear U P I h x;have ag:=Aa (show QS w6 B0 p b q G X d vO vF ps from ah.o.rdr (by have:=am.o;rw[aj.o.1,aj.o.2]at this;exact this));have Z:=Aa (show FT B0 kQ w w6 from ah.o.ft am.o.kp aq);have av:=Ab L.o;have aR:w.heap.size<=w6.heap.size:=Nat.le_of_lt av;have J:=Aa (ae.o w6 typ X (by omega) ag.o);generalize part ps.length typ X=aS at*;obtain⟨Ps,aB⟩:=aS;have aH:=Aa (show aC=(⟨2,⟨#[]⟩,⟨#[]⟩,[],j,some ps.length⟩,Ps,aB)from r.o);clear r ae;simp only[]at J;go_wp2_with fail;refine J.o.mono ?_;rintro _ w8 ⟨new,k,rfl,E,ax,aA,D,ay⟩;have n:=D.at L.o (by decide);have ak:=Aa n;have aE:=Aa (Z.o.trans D);have aF:=Aa (D.own ad.o (by decide));have aI:=Aa aA;have aG:=Aa ay;have af:=Aa (show AO (ps++new) (some ps.length)=pV k from by show Value.pointer _=_;rw[E];rfl);have aw:ps.length<(ps++new).length:=by
  rcases Nat.lt_or_ge ps.length (ps++new).length with a|a
  ·exact a
  ·rw[List.getElem?_eq_none a]at E;cases E
 have ab:=Aa (xZ ax aw);have aT:=Ac n;have aU:=Ak n;have aV:=Ab n;unfold pV at af;clear aA D ay J L ad ag Z E ax aw n;unfold pV;have aD:=Aa (fun Y (F:Ag w.heap.size w8 Y)=>(show Hp w Y B0 p b q G d vO vF ps (⟨2,⟨#[]⟩,⟨#[]⟩,[],j,some ps.length⟩,Ps,aB) (.returned (.agg #[.int .i64 2,.string ⟨#[]⟩,.string ⟨#[]⟩,.slice none 0 0,.slice y j.length z,.pointer (some ⟨k,0,none⟩)]))from
  ⟨new,.slice none 0 0,.slice y j.length z,by show _=Ending.returned (.agg #[.int .i64 2,.string ⟨#[]⟩,.string ⟨#[]⟩,.slice none 0 0,.slice y j.length z,AO (ps++new) (some ps.length)]);rw[af.o],ab.o.1,⟨xF _ _ _ _,(AA.keep (B:=0) (K:=[238]) F ak.o (by decide)).own aF.o (by decide) (wZ _),by simp,aM,fun i e=>by cases e;exact ab.o.2⟩,aI.o.typ (AA.keep F ak.o (by decide)),aE.o.kn F (wQ _) aq,(aG.o.typ' (AA.keepB F av)).low aR⟩))
 go_wp2_with fail;rw[aH.o];refine bodyPost_ret (v:=.agg #[.int .i64 2,.string ⟨#[]⟩,.string ⟨#[]⟩,.slice none 0 0,.slice y j.length z,.pointer (some ⟨k,0,none⟩)]) (by simp[results,results207,go_sem, *]) rfl ?_;refine aD.o _ ?_;repeat' with_reducible first|exact Ag.refl _ _|refine Ag.setCell ?_ _ _
theorem rX(part:Nat->yF->St->List Ai×St)(af:QS w B0 p b q G s d vO vF ps)(a3:∀W typ M,ln M<ln s->Oo W B0 p b q G d vO vF ps typ M (part ps.length typ M)):
 Calls prog 151 #[.pointer (some ⟨p,0,none⟩)] w fun e w'=>Hp w w' B0 p b q G d vO vF ps (EE part ps.length s) e:=by
 obtain⟨u,aO⟩:∃u:Value,u=.pointer (some ⟨q,0,none⟩):=⟨_,rfl⟩;obtain⟨v,aP⟩:∃v:Value,v=.int .i64 d:=⟨_,rfl⟩;have U:=Aa (xZ aO aP);have aC:LQ w w p b G u v s:=by rw[aO,aP];exact af.lq1
 have T:=Aa af;have aD:=Aa a3;have F:=Aa aC;have bq:=af.rd.lt;have bs:=aC.lt;have ag:=af.lt;have c:=aC.c0;have j:=Aa (EE.eq_1 part ps.length s);generalize EE part ps.length s=V at*;have O:=Aa (fun W (l:LQ w W p b G u v s)=>EG W b G s 4 l.ps);clear af aC aO aP a3;have C:(w.alloc (.cells #[.int .i64 0,.string ⟨#[]⟩,.string ⟨#[]⟩,.slice none 0 0,.slice none 0 0,.pointer none] 229)).heap[w.heap.size]?=some (.cells #[.int .i64 0,.string ⟨#[]⟩,.string ⟨#[]⟩,.slice none 0 0,.slice none 0 0,.pointer none] 229 (0,0)):=wX w _;have ay:=Aa C;clear C;have aE:=Aa (fun(H w8:World) (v8:Value) (r:As×List Ai×St) (bf:FT B0 kQ w H) (C:H.heap[w.heap.size]?=some (.cells #[.int .i64 0,.string ⟨#[]⟩,.string ⟨#[]⟩,.slice none 0 0,.slice none 0 0,.pointer none] 229 (0,0))) (n:Hp H w8 B0 p b q G d vO vF ps r (.returned v8))=>(show(∃(k:Nat) (b c:yF) (aX:Option Addr) (ai c1:Nat) (aY:Option Addr) (bj c2:Nat) (f:Option Addr),v8=.agg #[.int .i64 k,.string b,.string c,.slice aX ai c1,.slice aY bj c2,.pointer f])/\w8.heap[w.heap.size]?=some (.cells #[.int .i64 0,.string ⟨#[]⟩,.string ⟨#[]⟩,.slice none 0 0,.slice none 0 0,.pointer none] 229 (0,0))/\∀Y,Ag w.heap.size w8 Y->Hp w Y B0 p b q G d vO vF ps r (.returned v8)from by
  obtain⟨new,bu,bm,A,bh,aN,bl,a1,bk⟩:=n;have h:=a1.at C (by decide);obtain⟨aX,c1,I⟩:=An aN.a;obtain⟨aY,c2,aZ⟩:=An aN.c;obtain⟨f,a0⟩:∃f,AO (ps++new) r.1.part=.pointer f:=by
   cases r.1.part with
   |none=>exact⟨_,rfl⟩
   |some i=>exact⟨_,rfl⟩
  simp only[]at I aZ;rw[a0]at A;subst I aZ;refine⟨⟨_,_,_,_,_,_,_,_,_,_,(Ending.returned.inj A)⟩,h,fun Y L=>⟨new,_,_,by rw[a0];exact A,bh,?_,bl.typ (AA.keep L h (by decide)),(bf.trans a1).kn L (wQ _) ag,(bk.typ' (AA.keepB L (Ab C))).low (Nat.le_of_lt (Ab C))⟩⟩;exact(aN.typ (AA.keepB L (Ab C)) (wQ _)).low (Nat.le_of_lt (Ab C))))
 cases ad:Ae s 4
 ·rw[ad]at j O
  have D:=Aa (show V=IH part ps.length s from j.o);have Z:=Aa (fun W (l:QS W B0 p b q G s d vO vF ps)=>rR part l (fun aG typ M a4 bg=>aD.o aG typ M (by
   have:=ET M 14 (by decide) bg;rcases hs:Ae s 1 with _|_
   ·have:nmT s=none:=by unfold nmT;rw[hs];rfl
    rw[this]at a4;have bn:ln (none:St)=0:=rfl;omega
   ·have:=Li s hs;omega)))
  clear j ad;generalize IH part ps.length s=R at*;go_enter func151,ntmps151;go_wp2_with fail;refine(O.o _ (F.o.al _)).mono ?_;rintro _ w1 ⟨rfl,y,m⟩;have g:=Aa (show LQ w w1 p b G u v s from(F.o.al _).call y m);have z:=Aa (m.at ay.o (by omega));have aa:=Aa (show QS w1 B0 p b q G s d vO vF ps from T.o.rdr (by have:=g.o;rw[U.o.1,U.o.2]at this;exact this));have X:=Aa (show FT B0 kQ w w1 from T.o.ft g.o.kp ag);clear y m;go_wp2_with fail;refine(Z.o _ aa.o).mono ?_;intro ae w8 n;obtain⟨v8,rfl⟩:∃v8,ae=.returned v8:=by obtain⟨_,_,_,A,_⟩:=n;exact⟨_,A⟩
  obtain⟨⟨aj,ak,am,ao,ap,aq,ar,au,av,aw,rfl⟩,h,J⟩:=aE.o w1 w8 v8 R X.o z.o n;have N:=Aa J;have aJ:=Ac h;have aK:=Ak h;have aL:=Ab h;clear n J h;go_wp2_with fail;rw[D.o];refine bodyPost_ret (v:=.agg #[.int .i64 aj,.string ak,.string am,.slice ao ap aq,.slice ar au av,.pointer aw]) (by simp[results,results151,go_sem, *]) rfl ?_;refine N.o _ ?_;repeat' with_reducible first|exact Ag.refl _ _|refine Ag.setCell ?_ _ _
 ·rw[ad]at j
  have O:=Aa (fun W (l:LQ w W p b G u v s)=>(show Calls prog 153 _ W (fun e w'=>e=.returned (.bool true)/\PS w' b G (tl s)/\Ag b W w')from by have:=O.o W l;rw[ad]at this;exact this));have bp:=ET s 4 (by decide) ad;have j:=Aa (show V=(if (Ae (tl s) 1&&!Bu (tl s) Dw)=true then(⟨1,⟨#[]⟩,nm (tl s),[],(qConds 801 (nmT (tl s))).1,none⟩,[],(qConds 801 (nmT (tl s))).2)else JN part ps.length (tl s))from j.o);generalize tl s=s1 at*;have ab:=Aa (fun W (l:LQ w W p b G u v s1)=>Hg W b G s1 1 l.ps);have ax:=Aa (fun W (l:LQ w W p b G u v s1)=>SP W b G s1 Dw l.ps);have Z:=Aa (fun W (l:QS W B0 p b q G s1 d vO vF ps)=>rT part l (fun aG typ M a4=>aD.o aG typ M (by omega)));clear aD;generalize JN part ps.length s1=R at*;have aT:=Aa (fun(H:World) (aR:LQ w H p b G u v s1) (C:H.heap[w.heap.size]?=some (.cells #[.int .i64 0,.string ⟨#[]⟩,.string ⟨#[]⟩,.slice none 0 0,.slice none 0 0,.pointer none] 229 (0,0)))=>(show QS H B0 p b q G s1 d vO vF ps/\FT B0 kQ w H from⟨T.o.rdr (by rw[U.o.1,U.o.2]at aR;exact aR),T.o.ft aR.kp ag⟩));cases I:Ae s1 1
  ·rw[I]at ab j
   have D:=Aa (show V=R from j.o);clear j I;go_enter func151,ntmps151;go_wp2_with fail;refine(O.o _ (F.o.al _)).mono ?_;rintro _ w1 ⟨rfl,y,m⟩;have g:=Aa (show LQ w w1 p b G u v s1 from(F.o.al _).call y m);have z:=Aa (m.at ay.o (by omega));have c1:=g.o.c0;have a5:=g.o.lt;clear y m;go_wp2_with fail;refine(ab.o _ g.o).mono ?_;rintro _ w2 ⟨rfl,x⟩;have t:=Aa (g.o.be x);have E:=Aa ((x.block _ (Ab z.o)).trans z.o);clear x;have S:=aT.o w2 t.o E.o;have aa:=Aa S.1;have X:=Aa S.2;clear S;go_wp2_with fail;refine(Z.o _ aa.o).mono ?_;intro ae w8 n;obtain⟨v8,rfl⟩:∃v8,ae=.returned v8:=by obtain⟨_,_,_,A,_⟩:=n;exact⟨_,A⟩
   obtain⟨⟨aj,ak,am,ao,ap,aq,ar,au,av,aw,rfl⟩,h,J⟩:=aE.o w2 w8 v8 R X.o E.o n;have N:=Aa J;have aJ:=Ac h;have aK:=Ak h;have aL:=Ab h;clear n J h;go_wp2_with fail;rw[D.o];refine bodyPost_ret (v:=.agg #[.int .i64 aj,.string ak,.string am,.slice ao ap aq,.slice ar au av,.pointer aw]) (by simp[results,results151,go_sem, *]) rfl ?_;refine N.o _ ?_;repeat' with_reducible first|exact Ag.refl _ _|refine Ag.setCell ?_ _ _
  ·rw[I]at ab j
   cases aB:Bu s1 Dw
   rotate_left
   ·rw[aB]at ax j
    have D:=Aa (show V=R from j.o);clear j I aB;go_enter func151,ntmps151;go_wp2_with fail;refine(O.o _ (F.o.al _)).mono ?_;rintro _ w1 ⟨rfl,y,m⟩;have g:=Aa (show LQ w w1 p b G u v s1 from(F.o.al _).call y m);have z:=Aa (m.at ay.o (by omega));have c1:=g.o.c0;have a5:=g.o.lt;clear y m;go_wp2_with fail;refine(ab.o _ g.o).mono ?_;rintro _ w2 ⟨rfl,x⟩;have t:=Aa (g.o.be x);have E:=Aa ((x.block _ (Ab z.o)).trans z.o);have c2:=t.o.c0;have bi:=t.o.lt;clear x;go_wp2_with fail;refine(ax.o _ t.o).mono ?_;rintro _ w3 ⟨rfl,Q⟩;have P:=Aa (t.o.be Q);have az:=Aa ((Q.block _ (Ab E.o)).trans E.o);clear Q;have S:=aT.o w3 P.o az.o;have aa:=Aa S.1;have X:=Aa S.2;clear S;go_wp2_with fail;refine(Z.o _ aa.o).mono ?_;intro ae w8 n;obtain⟨v8,rfl⟩:∃v8,ae=.returned v8:=by obtain⟨_,_,_,A,_⟩:=n;exact⟨_,A⟩
    obtain⟨⟨aj,ak,am,ao,ap,aq,ar,au,av,aw,rfl⟩,h,J⟩:=aE.o w3 w8 v8 R X.o az.o n;have N:=Aa J;have aJ:=Ac h;have aK:=Ak h;have aL:=Ab h;clear n J h;go_wp2_with fail;rw[D.o];refine bodyPost_ret (v:=.agg #[.int .i64 aj,.string ak,.string am,.slice ao ap aq,.slice ar au av,.pointer aw]) (by simp[results,results151,go_sem, *]) rfl ?_;refine N.o _ ?_;repeat' with_reducible first|exact Ag.refl _ _|refine Ag.setCell ?_ _ _
   ·rw[aB]at ax j
    have a8:=Aa (fun W (l:LQ w W p b G u v s1)=>Eh W b G s1 l.ps);have aU:=Aa (fun W (l:LQ w W p b G u v (nmT s1))=>SG l.one);have D:=Aa (show V=(⟨1,⟨#[]⟩,nm s1,[],(qConds 801 (nmT s1)).1,none⟩,[],(qConds 801 (nmT s1)).2)from j.o);clear j I aB Z;generalize qConds 801 (nmT s1)=bc at*;obtain⟨aA,a6⟩:=bc;generalize nmT s1=bt at*;generalize nm s1=ai at*;simp only[]at aU D;go_enter func151,ntmps151;go_wp2_with fail;refine(O.o _ (F.o.al _)).mono ?_;rintro _ w1 ⟨rfl,y,m⟩;have g:=Aa (show LQ w w1 p b G u v s1 from(F.o.al _).call y m);have z:=Aa (m.at ay.o (by omega));have c1:=g.o.c0;have a5:=g.o.lt;clear y m;go_wp2_with fail;refine(ab.o _ g.o).mono ?_;rintro _ w2 ⟨rfl,x⟩;have t:=Aa (g.o.be x);have E:=Aa ((x.block _ (Ab z.o)).trans z.o);have c2:=t.o.c0;have bi:=t.o.lt;clear x;go_wp2_with fail;refine(ax.o _ t.o).mono ?_;rintro _ w3 ⟨rfl,Q⟩;have P:=Aa (t.o.be Q);have az:=Aa ((Q.block _ (Ab E.o)).trans E.o);have c3:=P.o.c0;have br:=P.o.lt;have bo:=P.o.ps.lt;clear Q;go_wp2_with fail;refine(a8.o _ P.o).mono ?_;rintro _ w4 ⟨rfl,a2,aQ⟩;have aF:=Aa (P.o.call a2 aQ);have bb:=Aa (aQ.at az.o (by omega));clear a2 aQ;go_wp2_with fail;refine(aU.o _ aF.o).mono ?_;rintro _ w6 ⟨bm,rfl,aM,bd,aS⟩;obtain⟨aH,aI,rfl⟩:=An aM;have ah:=aS.kp.at bb.o (by omega);have aV:=Aa ah;have a9:=Aa (FE aM aF.o.kp.size);have aW:=Aa (aF.o.tr aS);have ba:=Aa (show QS w6 B0 p b q G a6 d vO vF ps from T.o.rdr (by have:=aW.o;rw[U.o.1,U.o.2]at this;exact this));have a7:=Aa (show FT B0 kQ w w6 from T.o.ft aW.o.kp ag);have N:=Aa (fun Y (L:Ag w.heap.size w6 Y)=>(show Hp w Y B0 p b q G d vO vF ps (⟨1,⟨#[]⟩,ai,[],aA,none⟩,[],a6) (.returned (.agg #[.int .i64 1,.string ⟨#[]⟩,.string ai,.slice none 0 0,.slice aH aA.length aI,.pointer none]))from
     ⟨[],.slice none 0 0,.slice aH aA.length aI,rfl,rfl,⟨xF _ _ _ _,(AA.keep (B:=0) (K:=[238]) L aV.o (by decide)).own a9.o (by decide) (wZ _),by simp,bd,fun i e=>by cases e⟩,by rw[List.append_nil];exact ba.o.typ (AA.keep L aV.o (by decide)),a7.o.kn L (wQ _) ag,Bl.nil⟩))
    have aJ:=Ac ah;have aK:=Ak ah;have aL:=Ab ah;clear aS aM ah;go_wp2_with fail;rw[D.o];refine bodyPost_ret (v:=.agg #[.int .i64 1,.string ⟨#[]⟩,.string ai,.slice none 0 0,.slice aH aA.length aI,.pointer none]) (by simp[results,results151,go_sem, *]) rfl ?_;refine N.o _ ?_;repeat' with_reducible first|exact Ag.refl _ _|refine Ag.setCell ?_ _ _
end
def GO(X:World)(B0:Nat)(pp:List Nat)(i:Nat)(P:Ai)(Q:Nat->Prop):Prop:=
 ∃k a,∃L:List SX,pp[i]?=some k/\X.heap[k]?=some (.cells #[.string P.typ,.int .i64 i,a] 223 (0,0))/\B0<=k/\L.map Prod.fst=P.sels/\X.ownsRow B0 229 6 a L.length (L.flatMap (sL pp))/\L.length<=1000/\(∀x∈L,DF X B0 pp.length x)/\∀g,a.ownBlock=some g->Q g
def DT(Q:Nat->Prop)(X Y:World):Prop:=∀(k:Nat) (cs:Array Value) (t:TypeId) (a:Nat×Nat),X.heap[k]?=some (.cells cs t a)->t∈[223,236,238]\/(t=229/\Q k)->Y.heap[k]?=some (.cells cs t a)
section
variable {w X Y Z:World} {B0 B1 n m i:Nat} {pp new:List Nat} {x:SX} {P:Ai} {Q Q':Nat->Prop}
theorem ID{X Y:World}{B size n:Nat}{e:TypeId}{v:Value}{xs:List Value}(b:X.ownsRow B e size v n xs)(d:∀k a,v.ownBlock=some k->X.heap[k]?=some (.cells a e (0,0))->Y.heap[k]?=some (.cells a e (0,0))):Y.ownsRow B e size v n xs:=by
 refine⟨b.1,?_⟩;rcases b.2 with q|⟨g,cap,a,c,f,h,r⟩
 ·exact Or.inl q
 ·exact Or.inr ⟨g,cap,a,c,f,d g a (by rw[c];rfl) h,r⟩
theorem DF.stq(b:DF X B0 n x)(g:DT Q X Y)(h:n<=m):DF Y B0 m x:=
 ⟨ID b.a (fun k d _ f=>g k d _ _ f (.inl (by decide))),ID b.c (fun k d _ f=>g k d _ _ f (.inl (by decide))),b.al,b.cl,fun i e=>xA (b.p i e) h⟩
theorem GO.move(m:GO X B0 pp i P Q)(d:DT Q X Y)(s:∀g,g<X.heap.size->Q g->Q' g):GO Y B0 (pp++new) i P Q':=by
 obtain⟨k,y,L,b,n,p,q,f,r,h,j⟩:=m;have v:i<pp.length:=by
  rcases Nat.lt_or_ge i pp.length with a|a
  ·exact a
  ·rw[List.getElem?_eq_none a]at b;cases b
 exact⟨k,y,L,by rw[xN v];exact b,d _ _ _ _ n (.inl (by decide)),p,q,by rw[Rw h];exact ID f (fun g l e u=>d g l _ _ u (.inr ⟨rfl,j g e⟩)),r,fun x w=>(h x w).stq d (by simp),fun g e=>s g (by obtain⟨c,t⟩:=FG f g e;exact Ab t) (j g e)⟩
theorem CQ.q(b:CQ X B0 pp i P):GO X B0 pp i P (fun g=>B0<=g/\g<X.heap.size):=by
 obtain⟨k,m,L,c,d,f,h,a,j,l⟩:=b.ex;exact⟨k,m,L,c,d,f,h,a,j,l,fun g e=>a.lt g e⟩
theorem GO.at(a:GO X B0 pp i P Q):CQ X B0 pp i P:=by
 obtain⟨k,j,L,b,c,d,e,f,g,h,_⟩:=a;exact⟨k,j,L,b,c,d,e,f,g,h⟩
theorem GO.low(a:GO X B0 pp i P Q)(hb:B1<=B0):GO X B1 pp i P Q:=by
 obtain⟨k,m,L,b,c,d,e,f,g,h,j⟩:=a;exact⟨k,m,L,b,c,wV hb d,e,FE f hb,g,fun x l=>(h x l).low hb,j⟩
theorem DT.refl:DT Q X X:=fun _ _ _ _ a _=>a
theorem DT.trans(c:DT Q X Y)(k:DT Q Y Z):DT Q X Z:=fun i cs t a d b=>k i cs t a (c i cs t a d b) b
theorem DT.ft{K:List TypeId}(c:FT B0 K X Y)(b:∀t∈[223,236,238,229],t∉K):DT Q X Y:=fun k cs t f d a=>c.at d (by
 rcases a with a|⟨rfl,_⟩
 ·exact b t (by simp at a⊢;rcases a with e|e|e<;>simp[e])
 ·exact b _ (by decide))
theorem DT.below(b:yG X Y):DT Q X Y:=fun k _ _ _ a _=>(b.block k (Ab a)).trans a
theorem DT.grown{v:Value}{n size:Nat}{xs:List Value}(h:X.grownBy Y v.ownBlock)(i:X.ownsRow B0 229 size v n xs)(d:∀g,Q g->v.ownBlock≠some g):DT Q X Y:=fun k cs t l a b=>
 (h.block k (Ab a) (fun e=>by
  rcases b with b|⟨_,j⟩
  ·obtain⟨c,f⟩:=FG i k e.symm
   rw[f]at a;cases a;exact absurd b (by decide)
  ·exact d k j e.symm)).trans a
end
theorem Jz{X Y:World}{o:Obj}{B size n k:Nat}{e T:TypeId}{v:Value}{xs:List Value}{cs:Array Value}{b:Nat×Nat}(f:X.ownsRow B e size v n xs)(d:(X.alloc o).grownBy Y v.ownBlock)(a:X.heap[k]?=some (.cells cs T b))(c:T≠e):Y.heap[k]?=some (.cells cs T b):=
 (d.block k (by have:=Ab a;simp;omega) (fun q=>By f a c q.symm)).trans ((AJ _ _ _ (Ab a)).trans a)
structure Ea(w X:World)(B0 p b q G d:Nat)(vO vF:Value)(typ:yF)(ps1:List Nat)(n k0:Nat)(L:List SX)(Ps:List Ai)(new:List Nat)(v:Value)(s:St):Prop where
 qs:QS X B0 p b q G s d vO vF (ps1++new)
 ft:FT B0 kQ w X
 blk:X.heap[k0]?=some (.cells #[.string typ,.int .i64 n,v] 223 (0,0))
 own:X.ownsRow w.heap.size 229 6 v L.length (L.flatMap (sL (ps1++new)))
 ok:∀x∈L,DF X w.heap.size (ps1++new).length x
 nl:new.length=Ps.length
 pt:∀j P,Ps[j]?=some P->GO X (w.heap.size+1) (ps1++new) (ps1.length+j) P (fun g=>v.ownBlock≠some g)
 hk:k0=w.heap.size
section
variable {w X Y:World} {B0 p b q G d n k0:Nat} {vO vF v:Value} {typ:yF} {ps1 new:List Nat} {L:List SX} {Ps:List Ai} {s s':St}
theorem Ea.move(a:Ea w X B0 p b q G d vO vF typ ps1 n k0 L Ps new v s)(h:QS Y B0 p b q G s' d vO vF (ps1++new))(c:FT B0 kQ X Y):Ea w Y B0 p b q G d vO vF typ ps1 n k0 L Ps new v s':=
 ⟨h,a.ft.trans c,c.at a.blk (by decide),c.own a.own (by decide),fun x i=>(a.ok x i).stq (Q:=fun _=>True) (DT.ft c (by decide)) (wQ _),a.nl,fun j P f=>by
   have:=(a.pt j P f).move (new:=[]) (Y:=Y) (Q':=fun g=>v.ownBlock≠some g) (DT.ft c (by decide)) (fun g _ e=>e)
   rwa [List.append_nil]at this,a.hk⟩
theorem Ea.call(a:Ea w X B0 p b q G d vO vF typ ps1 n k0 L Ps new v s)(c:PS Y b G s')(k:Ag b X Y):Ea w Y B0 p b q G d vO vF typ ps1 n k0 L Ps new v s':=a.move (a.qs.call c k) (a.qs.ft k a.qs.lt)
theorem Ea.be(a:Ea w X B0 p b q G d vO vF typ ps1 n k0 L Ps new v s)(k:yG X Y):Ea w Y B0 p b q G d vO vF typ ps1 n k0 L Ps new v s:=a.move (a.qs.be k) (FT.of_below k a.qs.lt)
theorem Hp.shape{W w6:World}{g:List Nat}{r:As×List Ai×St}{e:Ending}(u:Hp W w6 B0 p b q G d vO vF g r e):∃new h c1 j c2 f,e=.returned (.agg #[.int .i64 r.1.kind,.string r.1.key,.string r.1.name,.slice h r.1.args.length c1,.slice j r.1.conds.length c2,.pointer f])/\AO (g++new) r.1.part=.pointer f/\new.length=r.2.1.length/\DF w6 W.heap.size (g++new).length (r.1,.slice h r.1.args.length c1,.slice j r.1.conds.length c2)/\QS w6 B0 p b q G r.2.2 d vO vF (g++new)/\FT B0 kQ W w6/\Bl w6 W.heap.size (g++new) g.length r.2.1:=by
 obtain⟨new,y,z,s,v,k,x,t,w⟩:=u;obtain⟨h,c1,l⟩:=An k.a;obtain⟨j,c2,m⟩:=An k.c;obtain⟨f,n⟩:∃f,AO (g++new) r.1.part=.pointer f:=by
  cases r.1.part with
  |none=>exact⟨_,rfl⟩
  |some i=>exact⟨_,rfl⟩
 simp only[]at l m;rw[n]at s;subst l m;exact⟨new,h,c1,j,c2,f,s,n,v,k,x,t,w⟩
theorem Ea.own6{w6:World}(c:Ea w X B0 p b q G d vO vF typ ps1 n k0 L Ps new v s)(a:FT B0 kQ X w6):w6.ownsRow w.heap.size 229 6 v L.length (L.flatMap (sL (ps1++new))):=a.own c.own (by decide)
theorem Ea.step{w6 w7:World}{o:Obj}{u:List Nat}{r:As×List Ai×St}{B C:Value}{g cap:Nat}(l:Ea w X B0 p b q G d vO vF typ ps1 n k0 L Ps new v s)
 (ae:u.length=r.2.1.length) (ag:DF w6 X.heap.size (ps1++new++u).length (r.1,B,C)) (am:QS w6 B0 p b q G r.2.2 d vO vF (ps1++new++u)) (A:FT B0 kQ X w6) (ak:Bl w6 X.heap.size (ps1++new++u) (ps1++new).length r.2.1)
 (R:w7.ownsRow w.heap.size 229 6 (.slice (some ⟨g,0,none⟩) (L.length+1) cap) (L.length+1) (L.flatMap (sL (ps1++new))++sL (ps1++new++u) (r.1,B,C))) (K:(w6.alloc o).grownBy w7 v.ownBlock) (ab:v.ownBlock=some g\/g=w6.heap.size+1) (y:w7.heap[k0]?=some (.cells #[.string typ,.int .i64 n,v] 223 (0,0))):
 Ea w (w7.setCell ⟨k0,2,none⟩ (.slice (some ⟨g,0,none⟩) (L.length+1) cap)) B0 p b q G d vO vF typ ps1 n k0 (L++[(r.1,B,C)]) (Ps++r.2.1) (new++u) (.slice (some ⟨g,0,none⟩) (L.length+1) cap) r.2.2:=by
 have af:=l.own6 A;have N:(w6.alloc o).ownsRow w.heap.size 229 6 v L.length (L.flatMap (sL (ps1++new))):=af.alloc o;have aj:=l.ft.size;have ar:=A.size
 have J:B0<=w.heap.size:=by have:=l.hk;have z:=Ab l.blk;have:=l.qs.lt;rcases Nat.lt_or_ge w.heap.size B0 with a|a
                            ·exact absurd (l.ft.low w.heap.size a) (by rw[<-l.hk,l.blk,l.hk];simp)
                            ·exact a
 have D:DT (fun f=>v.ownBlock≠some f) w6 w7:=(DT.below ((wR _ _).alloc (wQ _) _)).trans (DT.grown K N (fun _ e=>e));have S:∀f,(v.ownBlock≠some f)->f<w6.heap.size->(Value.slice (some ⟨g,0,none⟩) (L.length+1) cap).ownBlock≠some f:=fun f z E e=>by
  have I:g=f:=xD e;subst I;rcases ab with a|a
  ·exact z a
  ·omega
 have ad:=l.hk;have ap:∀(P:Ai) i pp Q,GO w7 (w.heap.size+1) pp i P Q->GO (w7.setCell ⟨k0,2,none⟩ (.slice (some ⟨g,0,none⟩) (L.length+1) cap)) (w.heap.size+1) pp i P Q:=fun P i pp Q ah=>by
  obtain⟨k,aq,T,z,E,F,V,O,W,Z,aa⟩:=ah;refine⟨k,aq,T,z,Ed E (by omega) _,F,V,Ds O (By O y (by decide)) _ _,W,fun x h=>?_,aa⟩;have h:=Z x h;exact⟨Ds h.a (By h.a y (by decide)) _ _,Ds h.c (By h.c y (by decide)) _ _,h.al,h.cl,h.p⟩
 have ao:∀x m,DF w7 w.heap.size m x->DF (w7.setCell ⟨k0,2,none⟩ (.slice (some ⟨g,0,none⟩) (L.length+1) cap)) w.heap.size m x:=fun x m h=>
  ⟨Ds h.a (By h.a y (by decide)) _ _,Ds h.c (By h.c y (by decide)) _ _,h.al,h.cl,h.p⟩
 refine⟨?_,?_,AI y 2 _,?_,?_,?_,?_,ad⟩
 ·rw[<-List.append_assoc]
  exact(am.typ ((AA.alloc o).trans (AA.grown K N (by decide)))).st y (by decide) 2 _
 ·exact((((l.ft.trans A).al J o).gr K (fun k M=>.inr ((N.lt k M).1)) J)).sn J _ (by show w.heap.size<=k0;omega) _
 ·have e:(L++[(r.1,B,C)]).flatMap (sL (ps1++(new++u)))=L.flatMap (sL (ps1++new))++sL (ps1++new++u) (r.1,B,C):=by
   rw[List.flatMap_append,<-List.append_assoc,Rw l.ok];simp
  rw[e,xJ];exact Ds R (By R y (by decide)) _ _
 ·intro x h
  refine ao x _ ?_;rcases yD.1 h with h|h
  ·exact((l.ok x h).stq (Q:=fun f=>v.ownBlock≠some f) ((DT.ft A (by decide)).trans D) (by simp))
  ·rw[List.mem_singleton]at h;subst h
   exact(ag.low aj).stq D (by rw[List.append_assoc];exact wQ _)
 ·rw[xJ,xJ,ae,l.nl]
 ·intro j P H
  refine ap P _ _ _ ?_;rcases Nat.lt_or_ge j Ps.length with a|a
  ·rw[xN a]at H
   have:=(l.pt j P H).move (new:=u) (Y:=w7) (Q':=fun f=>(Value.slice (some ⟨g,0,none⟩) (L.length+1) cap).ownBlock≠some f) ((DT.ft A (by decide)).trans D) (fun f au e=>S f e (by omega))
   rwa [List.append_assoc]at this
  ·rw[xO a]at H
   have z:=(ak _ P H).q.low (B1:=w.heap.size+1) (by have:=Ab l.blk;omega);have E:GO w6 (w.heap.size+1) (ps1++new++u) ((ps1++new).length+(j-Ps.length)) P (fun f=>v.ownBlock≠some f/\f<w6.heap.size):=by
    have:=z.move (new:=[]) (Y:=w6) (Q':=fun f=>v.ownBlock≠some f/\f<w6.heap.size) DT.refl (fun f _ e=>⟨fun I=>by have:=(l.own.lt f I).2;omega,e.2⟩)
    rwa [List.append_nil]at this
   have F:=E.move (new:=[]) (Y:=w7) (Q':=fun f=>(Value.slice (some ⟨g,0,none⟩) (L.length+1) cap).ownBlock≠some f) (fun k cs t U M ai=>D k cs t U M (ai.imp (fun e=>e) (fun e=>⟨e.1,e.2.1⟩))) (fun f _ e=>S f e.1 e.2);rw[List.append_nil,List.append_assoc]at F
   rwa [show(ps1++new).length+(j-Ps.length)=ps1.length+j by rw[xJ,l.nl];omega]at F
theorem QS.setd{X:World}{c:List Nat}(a:QS X B0 p b q G s d vO vF c)(d':Nat):QS (X.setCell ⟨p,2,none⟩ (.int .i64 d')) B0 p b q G s d' vO vF c:=by
 obtain⟨g,e,f⟩:=a.qy;have V:AA 0 [215,174,112,120] X (X.setCell ⟨p,2,none⟩ (.int .i64 d')):=AA.set a.pa (by decide) _ _;exact⟨a.rd.typ V (by decide) (by decide),AI a.pa 2 _,⟨g,V.2 _ _ _ _ (wZ _) e (by decide),V.own f (by decide) (wZ _)⟩,a.lb,a.lp,a.lq⟩
theorem Ea.fin{c:List Nat}(a:Ea w X B0 p b q G d vO vF typ (c++[w.heap.size]) c.length w.heap.size L Ps new v s)(h:L.length<=1000)(d':Nat):
 QS (X.setCell ⟨p,2,none⟩ (.int .i64 d')) B0 p b q G s d' vO vF (c++(w.heap.size::new))/\FT B0 kQ w (X.setCell ⟨p,2,none⟩ (.int .i64 d'))/\Bl (X.setCell ⟨p,2,none⟩ (.int .i64 d')) w.heap.size (c++(w.heap.size::new)) c.length (⟨typ,L.map Prod.fst⟩::Ps):=by
 have g:=a.qs.pa;have e:c++[w.heap.size]++new=c++(w.heap.size::new):=by simp
 have f:AA w.heap.size kP X (X.setCell ⟨p,2,none⟩ (.int .i64 d')):=AA.set g (by decide) _ _;refine⟨by rw[<-e];exact a.qs.setd d',a.ft.st g (by decide) a.qs.lp 2 _,?_⟩;rw[<-e];refine Bl.cons ?_ ?_
 ·refine CQ.typ' ⟨w.heap.size,v,L,by simp,a.blk,wQ _,rfl,a.own,h,a.ok⟩ f
 ·intro j P i
  have:=((a.pt j P i).at.low (Nat.le_succ _)).typ' f
  rwa [xJ,List.length_singleton]at this
end
end Go.Proofs.YtogdodlibkckkaaGreatDoor
