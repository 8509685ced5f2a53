import Derived.Test.YtogdodlibkckkaaGreatDoorZ29
import Derived.BigQuiet
namespace Go.Proofs.YtogdodlibkckkaaGreatDoor
set_option maxHeartbeats 20000000
set_option maxRecDepth 100000
open Go.RowKit Tryz
def Bz(pp l:List Nat):List Value:=l.map (fun j=>AO pp (some j))
theorem XP(pp a b:List Nat):Bz pp (a++b)=Bz pp a++Bz pp b:=xY
theorem infoPt:(prog.info? 120).map (fun i=>(i.zero,i.size,i.bytes))=some (some (.pointer none),1,8):=by kernel_rfl
section
variable {B0:Nat} {pp:List Nat} {parts:List Ai} {w0:World}
theorem kU(aP:Bl w0 B0 pp 0 parts)(aU:pp.length=parts.length)(aw:BP parts){B1 Sb:Nat}(aO:w0.heap.size<=B1)(br:B1<=Sb):∀(f:Nat) (w:World) (i k:Nat) (l:List Nat) (v:Value) (seen:List Bool),yG w0 w->B1<=w.heap.size->pp[i]?=some k->w.ownsRow B1 120 1 v l.length (Bz pp l)->w.heap[Sb]?=some (.cells (Bw seen).toArray 4 (0,0))->seen.length=pp.length->uns seen+1<=f->l.length+uns seen<=4000->
 Calls prog 213 #[.pointer (some ⟨k,0,none⟩),v,.slice (some ⟨Sb,0,none⟩) pp.length pp.length] w fun e w'=>∃v',e=.returned v'/\w'.ownsRow B1 120 1 v' (BN parts f i l seen).1.length (Bz pp (BN parts f i l seen).1)/\w'.heap[Sb]?=some (.cells (Bw (BN parts f i l seen).2).toArray 4 (0,0))/\Below B1 w w':=by
 obtain⟨bG,bu,I⟩:=yC.1 infoPt;simp only[Prod.mk.injEq]at I;obtain⟨bD,bE,bF⟩:=I;intro f
 induction f with
 |zero=>intro w i k l v seen _ _ _ _ _ _ I;omega
 |succ f a0=>
 intro w i k l v seen ak bp ao D q aX I bS;have bP:i<pp.length:=FC ao;obtain⟨P,aj⟩:∃P,parts[i]?=some P:=⟨_,wS (by omega)⟩;have Y:=aP i P aj;rw[Nat.zero_add]at Y;obtain⟨a,cap,G,bT,ax⟩:=Y.selAt ao;have F:=(ak.block _ (Ab G)).trans G;obtain⟨b,Z⟩:∃b,seen[i]?=some b:=⟨_,wS (by omega)⟩;have aQ:seen.getD i false=b:=by simp[List.getD,Z]
 have av:Ax parts i=P:=by simp[Ax,List.getD,aj]
 have y:=Aa (show BN parts (f+1) i l seen=(if seen.getD i false=true then(l,seen)else CV (BN parts f) (Ax parts i).sels (l++[i]) (seen.set i true))from by rw[BN]);rw[aQ,av]at y;generalize BN parts (f+1) i l seen=aB at*;obtain⟨bh,bl,rfl⟩:=An D;have bk:=Ac F;have bI:=Ab F;have bj:w.cell? ⟨Sb,i,none⟩=some (.bool b):=(Ac q i).trans (Nj seen i b Z);have bn:=Ak q;have bY:=Ab q;have bQ:¬k=Sb:=Eg F q (by decide);have bO:(i:Int)<pp.length:=by omega
 cases b
 ·rw[xG (by simp)]at y
  have N:=Aa (show(w.setCell ⟨Sb,i,none⟩ (.bool true)).heap[Sb]?=some (.cells (Bw (seen.set i true)).toArray 4 (0,0))from by rw[<-OF];exact AI q i _);have bW:=KD seen i Z;have bX:uns (seen.set i true)+1<=f:=by omega
  have bx:(seen.set i true).length=pp.length:=by simp[aX]
  have R:(w.setCell ⟨Sb,i,none⟩ (.bool true)).ownsRow B1 120 1 (.slice bh l.length bl) l.length (Bz pp l):=IF D (fun j am _=>xC _ _ _ _ (show j≠Sb from fun e=>By D q (by decide) (by rw[<-e];exact am)));have aa:=Aa (show Below B1 w (w.setCell ⟨Sb,i,none⟩ (.bool true))from(wR _ _).setCell br _);have a8:=Aa (show AO pp (some i)=.pointer (some ⟨k,0,none⟩)from by simp[AO,ao]);have bB:w.heap.size<=(w.setCell ⟨Sb,i,none⟩ (.bool true)).heap.size:=by simp[World.setCell]
  generalize bA:seen.set i true=st1 at*;have a4:=Aa a0;have ae:=Aa G;have bd:=Aa ax;have aD:=Aa ak;have a9:=Aa aw;have bq:=Aa (fun x (H:x∈P.sels) j (e:x.part=some j)=>(show j<parts.length from aw.d i x (by rw[av];exact H) j e));obtain⟨z,aH⟩:∃z,Hi (z=CV (BN parts f) P.sels (l++[i]) st1):=⟨_,Aa rfl⟩;rw[<-aH.o]at y;have af:=Aa aU;clear bA ax Y F G aj aQ av Z a0 q ak aP D aX I aw aU;go_enter func213,ntmps213;go_upto_region 4 with fail;generalize w.setCell ⟨Sb,i,none⟩ (.bool true)=O at*;have bw:k<B1:=xA (Ab ae.o) aO;have bJ:=xA bI aa.o.size;have bo:B1<=O.heap.size:=wV bp bB;clear bk bj bn;go_upto_region 5 with(at_builtin;refine wpList_append_own _ rfl _ _ 110 rfl B1 120 bG (.pointer none) 1 8 underlying110 bu bD bE bF rfl (by decide) _ _ _ rfl (R.alloc _) ⟨O.heap.size,0,none⟩ 1 1 [.pointer (some ⟨k,0,none⟩)] rfl rfl (Cz _ _ _ _ (by simp)) (fun u aY=>by simp at aY;subst aY;rfl) (by unfold maxLen;omega) (by omega) (by simp;omega) ?_;intro v' w2 au aR _;obtain⟨bi,bm,rfl⟩:=An au;have aG:=Aa au;have ad:=Aa aR;clear au aR);have bs:Sb<O.heap.size:=Ab N.o;have aF:=Aa (show Below B1 w w2 from aa.o.trans (((wR B1 O).alloc bo _).grown ad.o (by simp;omega) (fun j am=>(R.lt j am).1)));have bb:=Aa (show w2.heap[Sb]?=some (.cells (Bw st1).toArray 4 (0,0))from(ad.o.block Sb (by simp;omega) (fun e=>By R N.o (by decide) e.symm)).trans ((AJ _ _ _ bs).trans N.o));have a6:=Aa (show w2.ownsRow B1 120 1 (.slice bi (l.length+1) bm) (l++[i]).length (Bz pp (l++[i]))from by rw[XP,xJ];simpa [Bz,a8.o]using aG.o);have aq:w2.heap[k]?=some (.cells #[.string P.typ,.int .i64 i,.slice a P.sels.length cap] 223 (0,0)):=(aF.o.block k bw).trans ((aD.o.block k (Ab ae.o)).trans ae.o);have bL:=Ac aq;have bZ:=Ab aq;clear aq ad aG R aa N bJ;go_wp2;go_loopg [1,8,32] P.sels.length (fun m v1 v8 v32 wr=>∃(t:Nat) (c:List Nat) (h:List Bool),v32=.int .i64 t/\t<=P.sels.length/\P.sels.length-t<=m/\wr.ownsRow B1 120 1 v1 c.length (Bz pp c)/\wr.heap[Sb]?=some (.cells (Bw h).toArray 4 (0,0))/\h.length=pp.length/\uns h<=uns st1/\c.length+uns h<=l.length+1+uns st1/\Below B1 w wr/\z=CV (BN parts f) (P.sels.drop t) c h)
  case atStart=>exact⟨0,l++[i],st1,rfl,wZ _,wQ _,a6.o,bb.o,bx,wQ _,by simp,aF.o,aH.o⟩
  case round=>
   obtain⟨t,c,h,rfl,bU,bV,Q,S,X,aZ,aS,E,hrel⟩:=hrel;have n:=Aa hrel;have L:=Aa Q;have M:=Aa S;have K:=Aa E;have az:=Ab S;have bM:=E.size;have U:yG w0 wr:=aD.o.trans (E.mono aO);have aE:=Aa U;obtain⟨bg,cl,rfl⟩:=An Q;by_cases ar:t<P.sels.length
   ·have H:=wS ar
    have al:P.sels.drop t=P.sels[t]::P.sels.drop (t+1):=xX ar;have aT:P.sels[t]∈P.sels:=List.getElem_mem ar;generalize P.sels[t]=x at H al aT;obtain⟨g,bt,bN,aW⟩:=bd.o t x H;subst bt;obtain⟨aI,aL,aJ,aM,B,bz⟩:=(aW.below U).ex;have bK:wr.cell? ⟨g,t*6,none⟩=some (.int .i64 x.kind):=by simpa using B 0 _ rfl
    have b0:wr.cell? ⟨g,t*6+1,none⟩=some (.string x.key):=B 1 _ rfl;have b1:wr.cell? ⟨g,t*6+2,none⟩=some (.string x.name):=B 2 _ rfl;have b2:wr.cell? ⟨g,t*6+3,none⟩=some (.slice aI x.args.length aL):=B 3 _ rfl;have b3:wr.cell? ⟨g,t*6+4,none⟩=some (.slice aJ x.conds.length aM):=B 4 _ rfl;have ai:=Aa (show wr.cell? ⟨g,t*6+5,none⟩=some (AO pp x.part)from B 5 _ rfl);have bR:g<wr.heap.size:=wW wr _ bK;have V:=bq.o x aT;rw[al]at n;clear B H al hrel S E Q aW bz U;by_cases C:x.kind=0
    ·have bf:((x.kind:Int)!=0)=false:=by rw[C];rfl
     have s:=Aa (show z=CV (BN parts f) (P.sels.drop (t+1)) c h from by rw[n.o,CV,xH C]);obtain⟨aA,aV⟩:∃aA,AO pp x.part=.pointer aA:=by
      cases x.part with
      |none=>exact⟨none,rfl⟩
      |some p=>exact⟨_,rfl⟩
     have a2:wr.cell? ⟨g,t*6+5,none⟩=some (.pointer aA):=by have:=ai.o;rw[aV]at this;exact this
     clear aV C n V;go_wp2;go_roundg (P.sels.length-(t+1))
     case measure=>omega
     case rel=>exact⟨t+1,c,h,by go_num,by omega,wQ _,L.o.alloc _,(AJ _ _ _ az).trans M.o,X,aZ,aS,K.o.alloc (by omega) _,s.o⟩
    ·have bf:((x.kind:Int)!=0)=true:=by simp;omega
     cases A:x.part with
     |none=>
      have s:=Aa (show z=CV (BN parts f) (P.sels.drop (t+1)) c h from by rw[n.o,CV,xG C,A]);have a2:wr.cell? ⟨g,t*6+5,none⟩=some (.pointer none):=by have:=ai.o;rw[A]at this;exact this
      clear A C n V;go_wp2;go_roundg (P.sels.length-(t+1))
      case measure=>omega
      case rel=>exact⟨t+1,c,h,by go_num,by omega,wQ _,L.o.alloc _,(AJ _ _ _ az).trans M.o,X,aZ,aS,K.o.alloc (by omega) _,s.o⟩
     |some j=>
      have bv:=V j A;obtain⟨J,ap⟩:∃J,pp[j]?=some J:=⟨_,wS (by have:=af.o;omega)⟩;have a2:wr.cell? ⟨g,t*6+5,none⟩=some (.pointer (some ⟨J,0,none⟩)):=by have:=ai.o;rw[A]at this;rw[this];simp[AO,ap]
      have ab:=Aa (fun W (T:yG wr W)=>a4.o W j J c (.slice bg c.length cl) h (aE.o.trans (T.mono aE.o.size)) (wV (by omega) T.size) ap (AT L.o T) ((T.block _ az).trans M.o) X (by omega) (by omega));have ay:=NG a9.o f j c h bv (by rw[X];exact af.o);have s:=Aa (show z=CV (BN parts f) (P.sels.drop (t+1)) (BN parts f j c h).1 (BN parts f j c h).2 from by rw[n.o,CV,xG C,A]);generalize BN parts f j c h=r at*;obtain⟨bH,st2⟩:=r;simp only[]at ab ay s;clear A C n V ap;go_wp2_with fail;have aC:=Aa (show yG wr (wr.alloc (.cells #[.int .i64 x.kind,.string x.key,.string x.name,.slice aI x.args.length aL,.slice aJ x.conds.length aM,.pointer (some ⟨J,0,none⟩)] 229))from(wR _ _).alloc (wQ _) _);refine(ab.o _ aC.o).mono ?_;rintro _ w5 ⟨v5,rfl,aN,a1,aK⟩;have a7:=Aa aN;have bc:=Aa a1;have a3:=Aa (show Below B1 w w5 from(K.o.trans (aC.o.mono (by omega))).trans aK);have ah:=Aa ay;clear ay;clear aN a1 aK ab;go_wp2;go_roundg (P.sels.length-(t+1))
      case measure=>omega
      case rel=>exact⟨t+1,bH,st2,by go_num,by omega,wQ _,a7.o,bc.o,by have:=af.o;have:=ah.o.1;omega,by have:=ah.o.2.1;omega,by have:=ah.o.2.2.1;omega,a3.o,s.o⟩
   ·have bC:t=P.sels.length:=by omega
    subst bC;have s:=Aa (show z=(c,h)from by rw[n.o,List.drop_length];rfl);rw[s.o]at y;have ag:=Aa (show aB=(c,h)from y.o);clear S E Q n hrel U;go_wp2;go_ret;rw[ag.o];exact⟨_,rfl,L.o,M.o,K.o⟩
 ·rw[xH rfl]at y
  have ba:=Aa q;have a5:=Aa D;have ag:=Aa (show aB=(l,seen)from y.o);clear q ax Y F D G;go_enter func213,ntmps213;go_wp2;go_ret;rw[ag.o];exact⟨_,rfl,a5.o,ba.o,wR _ _⟩
end
def Mu(pp:List Nat)(p:Nat×Nat):List Value:=[AO pp (some p.1),AO pp (some p.2)]
structure AG(X:World)(B1 G Mb Lb:Nat)(pp:List Nat)(parts:List Ai)(g:Bc)(vo:Value):Prop where
 b:X.heap[G]?=some (.cells #[vo,.slice (some ⟨Mb,0,none⟩) (pp.length*pp.length) (pp.length*pp.length),.slice (some ⟨Lb,0,none⟩) pp.length pp.length] 244 (0,0))
 o:X.ownsRow B1 247 2 vo g.2.length (g.2.flatMap (Mu pp))
 m:X.heap[Mb]?=some (.cells (Bw g.1).toArray 4 (0,0))
 l:∃cs:Array Value,X.heap[Lb]?=some (.cells cs 110 (0,0))/\cs.size=pp.length/\∀i,i<pp.length->cs[i]?=some (.slice none 0 0)\/∃a c,cs[i]?=some (.slice (some a) (Bi parts i).length c)/\X.ownsRow B1 120 1 (.slice (some a) (Bi parts i).length c) (Bi parts i).length (Bz pp (Bi parts i))
 lg:B1<=G
 lm:B1<=Mb
 ll:B1<=Lb
structure AF(G Mb Lb:Nat)(w:World)(vo:Value)(X:World)(vo':Value):Prop where
 os:X.os=w.os
 tape:X.tape=w.tape
 output:X.output=w.output
 size:w.heap.size<=X.heap.size
 blk:∀k,k<w.heap.size->k≠G->k≠Mb->k≠Lb->vo.ownBlock≠some k->X.heap[k]?=w.heap[k]?
 li:∀k,vo'.ownBlock=some k->vo.ownBlock=some k\/w.heap.size<=k
section
variable {w X Y:World} {B1 G Mb Lb:Nat} {pp:List Nat} {parts:List Ai} {g:Bc} {vo vo' vo2:Value}
theorem AF.refl(G Mb Lb:Nat)(w:World)(vo:Value):AF G Mb Lb w vo w vo:=⟨rfl,rfl,rfl,wQ _,fun _ _ _ _ _ _=>rfl,fun _ a=>.inl a⟩
theorem AF.trans(a:AF G Mb Lb w vo X vo')(k:AF G Mb Lb X vo' Y vo2):AF G Mb Lb w vo Y vo2:=
 ⟨k.os.trans a.os,k.tape.trans a.tape,k.output.trans a.output,wV a.size k.size,fun i b c d f g=>(k.blk i (xA b a.size) c d f (fun e=>by
  rcases a.li i e with q|q
  ·exact g q
  ·omega)).trans (a.blk i b c d f g),fun i b=>by
  rcases k.li i b with q|q
  ·exact a.li i q
  ·exact .inr (wV a.size q)⟩
theorem AF.of_below(a:yG w X):AF G Mb Lb w vo X vo:=⟨a.os,a.tape,a.output,a.size,fun k b _ _ _ _=>a.block k b,fun _ q=>.inl q⟩
theorem AF.below(c:AF G Mb Lb w vo X vo')(a:AG w B1 G Mb Lb pp parts g vo):Below B1 w X:=⟨c.os,c.tape,c.output,c.size,fun k d=>by
 rcases Nat.lt_or_ge k w.heap.size with q|q
 ·exact c.blk k q (by have:=a.lg;omega) (by have:=a.lm;omega) (by have:=a.ll;omega) (fun e=>by have:=(a.o.lt k e).1;omega)
 ·have:=Ab a.b;have:=a.lg;omega⟩
theorem AG.below(d:AG X B1 G Mb Lb pp parts g vo)(hb:yG X Y):AG Y B1 G Mb Lb pp parts g vo:=by
 obtain⟨cs,f,h,j⟩:=d.l;exact⟨(hb.block _ (Ab d.b)).trans d.b,AT d.o hb,(hb.block _ (Ab d.m)).trans d.m,⟨cs,(hb.block _ (Ab f)).trans f,h,fun i k=>(j i k).imp (fun e=>e) (fun⟨a,c,e,o⟩=>⟨a,c,e,AT o hb⟩)⟩,d.lg,d.lm,d.ll⟩
theorem AF.pts{v:Value}{l:List Value}{k:Nat}(f:AF G Mb Lb w vo X vo')(a:AG w B1 G Mb Lb pp parts g vo)(c:w.ownsRow B1 120 1 v k l):X.ownsRow B1 120 1 v k l:=by
 obtain⟨cs,h,_⟩:=a.l;refine IF c (fun j d i=>f.blk j i (fun e=>By c a.b (by decide) (by rw[<-e];exact d)) (fun e=>By c a.m (by decide) (by rw[<-e];exact d)) (fun e=>By c h (by decide) (by rw[<-e];exact d)) (fun e=>?_));obtain⟨c1,n⟩:=FG c j d;exact By a.o n (by decide) e
theorem AG.setM(d:AG X B1 G Mb Lb pp parts g vo)(p:Nat):AG (X.setCell ⟨Mb,p,none⟩ (.bool true)) B1 G Mb Lb pp parts (g.1.set p true,g.2) vo/\AF G Mb Lb X vo (X.setCell ⟨Mb,p,none⟩ (.bool true)) vo:=by
 obtain⟨cs,f,s,t⟩:=d.l;have r:∀{e:TypeId} {size n:Nat} {v:Value} {xs:List Value},X.ownsRow B1 e size v n xs->e≠4->(X.setCell ⟨Mb,p,none⟩ (.bool true)).ownsRow B1 e size v n xs:=fun h u=>IF h (fun j x _=>xC _ _ _ _ (show j≠Mb from fun e=>By h d.m (fun q=>u q.symm) (by rw[<-e];exact x)));refine⟨⟨Ed d.b (Eg d.b d.m (by decide)) _,r d.o (by decide),by rw[<-OF];exact AI d.m p _,⟨cs,Ed f (Eg f d.m (by decide)) _,s,fun i w=>(t i w).imp (fun e=>e) (fun⟨a,c,e,o⟩=>⟨a,c,e,r o (by decide)⟩)⟩,d.lg,d.lm,d.ll⟩,rfl,rfl,rfl,by simp[World.setCell],fun k _ _ y _ _=>xC _ _ _ _ y,fun _ q=>.inl q⟩
theorem AG.push(d:AG X B1 G Mb Lb pp parts g vo){v':Value}{p:Nat×Nat}(f:X.grownBy Y vo.ownBlock)(h:Y.ownsRow B1 247 2 v' (g.2.length+1) (g.2.flatMap (Mu pp)++Mu pp p))(E:∀k,v'.ownBlock=some k->vo.ownBlock=some k\/X.heap.size<=k):AG (Y.setCell ⟨G,0,none⟩ v') B1 G Mb Lb pp parts (g.1,g.2++[p]) v'/\AF G Mb Lb X vo (Y.setCell ⟨G,0,none⟩ v') v':=by
 obtain⟨cs,s,x,y⟩:=d.l;have far:∀{k:Nat} {c:Array Value} {T:TypeId},X.heap[k]?=some (.cells c T (0,0))->T≠247->Y.heap[k]?=some (.cells c T (0,0)):=fun r A=>(f.block _ (Ab r) (fun e=>By d.o r A e.symm)).trans r;have u:=far d.b (by decide);have w:∀{e:TypeId} {size n:Nat} {v:Value} {xs:List Value},Y.ownsRow B1 e size v n xs->e≠244->(Y.setCell ⟨G,0,none⟩ v').ownsRow B1 e size v n xs:=fun h C=>IF h (fun j t _=>xC _ _ _ _ (show j≠G from fun e=>By h u (fun q=>C q.symm) (by rw[<-e];exact t)));have B:∀{v:Value} {n:Nat} {xs:List Value},X.ownsRow B1 120 1 v n xs->Y.ownsRow B1 120 1 v n xs:=fun h=>IF h (fun j t F=>f.block j F (fun e=>by
  obtain⟨c1,H⟩:=FG h j t;exact By d.o H (by decide) e.symm))
 refine⟨⟨AI u 0 v',by rw[List.flatMap_append,xJ];simpa using w h (by decide),Ed (far d.m (by decide)) (Eg d.m d.b (by decide)) _,⟨cs,Ed (far s (by decide)) (Eg s d.b (by decide)) _,x,fun i D=>(y i D).imp (fun e=>e) (fun⟨a,c,e,o⟩=>⟨a,c,e,w (B o) (by decide)⟩)⟩,d.lg,d.lm,d.ll⟩,f.os,f.tape,f.output,wV f.size (by simp[World.setCell]),fun k r s _ _ z=>(xC _ _ _ _ s).trans (f.block k r (fun e=>z e.symm)),E⟩
end
theorem Xm{a b:Value}(d:a.oneCell'=true)(hb:b.oneCell'=true):∀u∈[a,b],u.oneCell'=true:=fun u c=>by
 rcases yE.1 c with rfl|c
 ·exact d
 ·rw[List.mem_singleton]at c;rw[c];exact hb
theorem Wa{v:Value}{g H len cap:Nat}(a:v.ownBlock=some g\/g=H):∀k,(Value.slice (some ⟨g,0,none⟩) len cap).ownBlock=some k->v.ownBlock=some k\/H<=k:=fun k b=>by
 have e:g=k:=xD b;subst e;rcases a with q|q
 ·exact .inl q
 ·exact .inr (by omega)
theorem infoPr:(prog.info? 247).map (fun i=>(i.zero,i.size,i.bytes))=some (some (.agg #[.pointer none,.pointer none]),2,16):=by kernel_rfl
section
variable {w:World} {B0 B1 G Mb Lb:Nat} {pp:List Nat} {parts:List Ai} {g:Bc} {vo:Value}
theorem iG(A:AG w B1 G Mb Lb pp parts g vo)(aV:B1<=w.heap.size)(aj:Bl w B0 pp 0 parts)(ap:pp.length=parts.length)(aq:pp.length<=2000){c:Nat}(Z:BF parts.length c g)(aX:c<=5000000){i j k r:Nat}(ab:pp[i]?=some k)(ad:pp[j]?=some r):
 Calls prog 160 #[.pointer (some ⟨G,0,none⟩),.pointer (some ⟨k,0,none⟩),.pointer (some ⟨r,0,none⟩)] w fun e w'=>e=.returned (.tuple #[])/\∃vo',AG w' B1 G Mb Lb pp parts (If pp.length i j g) vo'/\AF G Mb Lb w vo w' vo':=by
 obtain⟨ay,al,au⟩:=yC.1 infoPr;simp only[Prod.mk.injEq]at au;obtain⟨av,aw,ax⟩:=au;have aH:i<pp.length:=FC ab;have aI:j<pp.length:=FC ad;have num:∀a N,pp[a]?=some N->a<pp.length->w.cell? ⟨N,1,none⟩=some (.int .i64 a)/\N<w.heap.size:=fun a N aF aW=>by
  have ar:=aj a _ (wS (by omega));rw[Nat.zero_add]at ar;obtain⟨aU,cap,am,_⟩:=ar.rd aF;exact⟨Ac am 1,Ab am⟩
 obtain⟨a2,a0⟩:=num i k ab aH;obtain⟨a3,a1⟩:=num j r ad aI;have ag:=Aa (show AO pp (some i)=.pointer (some ⟨k,0,none⟩)from by simp[AO,ab]);have ah:=Aa (show AO pp (some j)=.pointer (some ⟨r,0,none⟩)from by simp[AO,ad]);have f:=Aa (If.eq_1 pp.length i j g);generalize If pp.length i j g=af at*;have ak:g.1.length=pp.length*pp.length:=by rw[ap];exact Z.l
 have aY:g.2.length<=5000000:=by have:=Z.c;omega
 obtain⟨L,M,rfl⟩:=An A.o;have K:=Aa A;have ai:=Ac A.b;have az:=Ab A.b;have J:=Aa A.m;have aZ:=Ab A.m;clear aj ap Z num;by_cases ao:j<i
 ·have S:=Aa (show Cq i j=(j,i)from by unfold Cq;rw[xH ao])
  rw[S.o]at f;simp only[]at f;have ae:=PY (n:=pp.length) (a:=j) (b:=i) (by omega) (by omega);obtain⟨b,hb⟩:∃b,g.1[j*pp.length+i]?=some b:=⟨_,wS (by omega)⟩;have R:=Aa (show g.1.getD (j*pp.length+i) false=b from by simp[List.getD,hb]);rw[R.o]at f;have aN:j*pp.length<=4000000:=wV (Nat.mul_le_mul (show j<=2000 by omega) aq) (by decide);have C:w.cell? ⟨Mb,j*pp.length+i,none⟩=some (.bool b):=(Ac J.o _).trans (Nj g.1 _ b hb);have W:=Ak J.o;have aG:(j:Int)<i:=by omega
  obtain⟨pl,z⟩:∃pl,pl=j*pp.length+i:=⟨_,rfl⟩;have aK:((j:Int)*(pp.length:Int)+(i:Int))=(pl:Int):=by rw[z];simp
  have aL:(0:Int)<=(j:Int)*(pp.length:Int):=by rw[<-Int.natCast_mul];omega
  have aM:(j:Int)*(pp.length:Int)<=4000000:=by rw[<-Int.natCast_mul];omega
  have aQ:(pl:Int)<(pp.length:Int)*(pp.length:Int):=by rw[<-Int.natCast_mul];omega
  rw[<-z]at C f;have aO:pl<=4002000:=by omega
  have aP:pl<g.1.length:=by omega
  clear ae hb z ak;cases b
  ·rw[xG (by simp)]at f
   go_enter func160,ntmps160;go_wp2;go_quiet (fail);obtain⟨d,u⟩:∃d,d=nq:=⟨_,rfl⟩;rw[<-u];clear u nq;go_wp2;go_quiet (fail);go_upto_region 5 with fail;obtain⟨h,D⟩:=(K.o.below (below_drewN (wR w.heap.size w) (d+nq))).setM pl;have x:=AF.trans (AF.of_below (G:=G) (Mb:=Mb) (Lb:=Lb) (vo:=.slice L g.2.length M) (below_drewN (wR w.heap.size w) (d+nq))) D;have aR:=x.size;generalize (w.drewN (d+nq)).setCell ⟨Mb,pl,none⟩ (.bool true)=t at*;have O:=Aa x;have aA:=Aa h;have aB:=Ac h.b;have aS:=Ab h.b;have H:=h.o;have s:=Aa (h.below (bA (wR _ _) (.cells #[.pointer (some ⟨r,0,none⟩),.pointer (some ⟨k,0,none⟩)] 247)));simp only[]at H;have X:=Aa (fun(Y:World) (aa:(t.alloc (.cells #[.pointer (some ⟨r,0,none⟩),.pointer (some ⟨k,0,none⟩)] 247)).grownBy Y (Value.slice L g.2.length M).ownBlock)=>(aa.block G (Ab s.o.b) (fun e=>By s.o.o s.o.b (by decide) e.symm)).trans s.o.b);clear h D x ai az C W;go_wp2_with (at_builtin;refine wpList_append_lies _ rfl _ _ 242 rfl B1 247 ay (.agg #[.pointer none,.pointer none]) 2 16 underlying242 al av aw ax rfl (by decide) _ _ _ rfl (H.alloc _) ⟨t.heap.size,0,none⟩ 1 1 [.pointer (some ⟨r,0,none⟩),.pointer (some ⟨k,0,none⟩)] rfl rfl (Cz _ _ _ _ (by simp)) (Xm rfl rfl) (by decide) (by unfold maxLen;omega) (by omega) (by simp;omega) (t.heap.size+1) (by simp) ?_;intro aE V w1 I y E aJ;have T:=Aa I;have Q:=Aa y;have P:=Aa E;have v:=X.o w1 y;have aC:=Ac v;have aD:=Ak v;have aT:=Ab v;clear v I y E);have B:=Aa (s.o.push (p:=(j,i)) Q.o (by unfold Mu;rw[ah.o,ag.o];exact T.o) (by have q:=Wa (len:=g.2.length+1) (cap:=V) P.o;rw[show(t.alloc (.cells #[.pointer (some ⟨r,0,none⟩),.pointer (some ⟨k,0,none⟩)] 247)).heap.size=t.heap.size+1 from by simp];exact q));go_end0;rw[f.o];exact⟨rfl,_,B.o.1,(O.o.trans (AF.of_below (bA (wR _ _) _))).trans B.o.2⟩
  ·rw[xH rfl]at f
   have U:=Aa (show af=g from f.o);go_enter func160,ntmps160;go_wp2;go_quiet (fail);obtain⟨d,u⟩:∃d,d=nq:=⟨_,rfl⟩;rw[<-u];clear u nq;go_wp2;go_quiet (fail);go_wp2;go_end0;rw[U.o];have F:=below_drewN (wR w.heap.size w) (d+nq);exact⟨rfl,_,K.o.below F,AF.of_below F⟩
 ·have S:=Aa (show Cq i j=(i,j)from by unfold Cq;rw[xG ao])
  rw[S.o]at f;simp only[]at f;have ae:=PY (n:=pp.length) (a:=i) (b:=j) (by omega) (by omega);obtain⟨b,hb⟩:∃b,g.1[i*pp.length+j]?=some b:=⟨_,wS (by omega)⟩;have R:=Aa (show g.1.getD (i*pp.length+j) false=b from by simp[List.getD,hb]);rw[R.o]at f;have aN:i*pp.length<=4000000:=wV (Nat.mul_le_mul (show i<=2000 by omega) aq) (by decide);have C:w.cell? ⟨Mb,i*pp.length+j,none⟩=some (.bool b):=(Ac J.o _).trans (Nj g.1 _ b hb);have W:=Ak J.o;have aG:¬(j:Int)<i:=by omega
  obtain⟨pl,z⟩:∃pl,pl=i*pp.length+j:=⟨_,rfl⟩;have aK:((i:Int)*(pp.length:Int)+(j:Int))=(pl:Int):=by rw[z];simp
  have aL:(0:Int)<=(i:Int)*(pp.length:Int):=by rw[<-Int.natCast_mul];omega
  have aM:(i:Int)*(pp.length:Int)<=4000000:=by rw[<-Int.natCast_mul];omega
  have aQ:(pl:Int)<(pp.length:Int)*(pp.length:Int):=by rw[<-Int.natCast_mul];omega
  rw[<-z]at C f;have aO:pl<=4002000:=by omega
  have aP:pl<g.1.length:=by omega
  clear ae hb z ak;cases b
  ·rw[xG (by simp)]at f
   go_enter func160,ntmps160;go_wp2;go_quiet (fail);obtain⟨d,u⟩:∃d,d=nq:=⟨_,rfl⟩;rw[<-u];clear u nq;go_wp2;go_quiet (fail);go_upto_region 5 with fail;obtain⟨h,D⟩:=(K.o.below (below_drewN (wR w.heap.size w) (d+nq))).setM pl;have x:=AF.trans (AF.of_below (G:=G) (Mb:=Mb) (Lb:=Lb) (vo:=.slice L g.2.length M) (below_drewN (wR w.heap.size w) (d+nq))) D;have aR:=x.size;generalize (w.drewN (d+nq)).setCell ⟨Mb,pl,none⟩ (.bool true)=t at*;have O:=Aa x;have aA:=Aa h;have aB:=Ac h.b;have aS:=Ab h.b;have H:=h.o;have s:=Aa (h.below (bA (wR _ _) (.cells #[.pointer (some ⟨k,0,none⟩),.pointer (some ⟨r,0,none⟩)] 247)));simp only[]at H;have X:=Aa (fun(Y:World) (aa:(t.alloc (.cells #[.pointer (some ⟨k,0,none⟩),.pointer (some ⟨r,0,none⟩)] 247)).grownBy Y (Value.slice L g.2.length M).ownBlock)=>(aa.block G (Ab s.o.b) (fun e=>By s.o.o s.o.b (by decide) e.symm)).trans s.o.b);clear h D x ai az C W;go_wp2_with (at_builtin;refine wpList_append_lies _ rfl _ _ 242 rfl B1 247 ay (.agg #[.pointer none,.pointer none]) 2 16 underlying242 al av aw ax rfl (by decide) _ _ _ rfl (H.alloc _) ⟨t.heap.size,0,none⟩ 1 1 [.pointer (some ⟨k,0,none⟩),.pointer (some ⟨r,0,none⟩)] rfl rfl (Cz _ _ _ _ (by simp)) (Xm rfl rfl) (by decide) (by unfold maxLen;omega) (by omega) (by simp;omega) (t.heap.size+1) (by simp) ?_;intro aE V w1 I y E aJ;have T:=Aa I;have Q:=Aa y;have P:=Aa E;have v:=X.o w1 y;have aC:=Ac v;have aD:=Ak v;have aT:=Ab v;clear v I y E);have B:=Aa (s.o.push (p:=(i,j)) Q.o (by unfold Mu;rw[ag.o,ah.o];exact T.o) (by have q:=Wa (len:=g.2.length+1) (cap:=V) P.o;rw[show(t.alloc (.cells #[.pointer (some ⟨k,0,none⟩),.pointer (some ⟨r,0,none⟩)] 247)).heap.size=t.heap.size+1 from by simp];exact q));go_end0;rw[f.o];exact⟨rfl,_,B.o.1,(O.o.trans (AF.of_below (bA (wR _ _) _))).trans B.o.2⟩
  ·rw[xH rfl]at f
   have U:=Aa (show af=g from f.o);go_enter func160,ntmps160;go_wp2;go_quiet (fail);obtain⟨d,u⟩:∃d,d=nq:=⟨_,rfl⟩;rw[<-u];clear u nq;go_wp2;go_quiet (fail);go_wp2;go_end0;rw[U.o];have F:=below_drewN (wR w.heap.size w) (d+nq);exact⟨rfl,_,K.o.below F,AF.of_below F⟩
end
end Go.Proofs.YtogdodlibkckkaaGreatDoor
