import Derived.Test.YtogdodlibkckkaaGreatDoorZS1
import Derived.Test.YtogdodlibkckkaaGreatDoorZ48
import Derived.Deep.RegionLaw
import Derived.Lib.SliceRun
namespace Go.Proofs.YtogdodlibkckkaaGreatDoor
set_option maxHeartbeats 20000000
set_option maxRecDepth 100000
open Go.RowKit Tryz
open Go.Maps Tryz
def AEo(w:World)(c:Be)(b:List AY)(e:Ending)(w':World):Prop:=∃a,e=.returned (.tuple #[.pointer (some ⟨a,0,none⟩),.int .i64 0])/\yG w w'/\GN w' a c b
theorem GN.read{w:World}{T:Nat}{c:Be}{ys:List AY}(K:GN w T c ys):∃S g vL D,w.heap[T]?=some (.cells #[vL,.pointer (some ⟨S,0,none⟩),.map (some g)] 67 (0,0))/\BS w g ys.length D/\PM (ys.map (fun y=>y.2.1)) D/\∀e,yG w e->∀(a:Option Addr) (h:Nat) (d:List AY),Fv e (.slice a d.length h) d->QI d->Ij c d=true->Calls prog 35 #[.pointer (some ⟨S,0,none⟩),.slice a d.length h] e (AEo e c d):=by
 obtain⟨S,J,Y,X,V,Z,W,H,r,p,i,C,U,k,F,n,z,N⟩:=K.ex;obtain⟨g,B,vL,G,v,L,M⟩:=N.ex;have Q:G.map AE.id=ys.map (fun y=>y.2.1):=by
  refine List.ext_getElem? (fun j=>?_);rw[xI,xI];cases f:G[j]? with
  |none=>
   have:ys[j]?=none:=by rw[List.getElem?_eq_none_iff]at f⊢;omega
   rw[this];rfl
  |some q=>
   obtain⟨y,E⟩:∃y,ys[j]?=some y:=⟨_,wS (by have:=(wU.1 f).1;omega)⟩;rw[E];exact congrArg some (M j q y f E).id
 obtain⟨D,s,t⟩:=v.m;rw[Q]at t;rw[L]at s;refine⟨S,g,vL,D,v.b,s,t,fun e x a h d P A R=>?_⟩;have u:Lt (r.map Prod.fst) (p.map iN) (i.map uN) (i.map Prod.fst) d=true:=by
  rw[<-R];unfold Ij;rw[k,n,<-F,<-n,List.map_map,List.map_map];rfl
 refine(tQ e (C.below x) z a h d P A.l A.c).mono ?_;rintro _ w' ⟨q,rfl,hb,f⟩;obtain⟨I,rfl,O⟩:=f u;refine⟨I,by rw[xH u],hb,S,J,Y,X,V,Z,W,H,r,p,i,(C.below x).below hb,U,k,F,n,z,?_⟩;rw[<-k];exact O
theorem AFW:∀(xs:List AFJ) (a:Nat) (c:AFJ) (j:Nat),xs[a]?=some c->j<3->(xs.flatMap ACG)[a*3+j]?=(ACG c)[j]?
 |[],a,t,j,b,_=>by simp at b
 |x::e,0,t,j,b,d=>by
  simp at b;subst b;rw[List.flatMap_cons,xN (by show _<3;omega)];simp
 |x::e,a+1,t,j,b,d=>by
  rw[List.flatMap_cons,xO (by show 3<=_;omega)];rw[show(a+1)*3+j-(ACG x).length=a*3+j by show(a+1)*3+j-3=_;omega];exact AFW e a t j (by simpa using b) d
theorem AFZ{w:World}{B:Nat}{v:Value}{xs:List AFJ}(c:w.ownsRow B 38 3 v xs.length (xs.flatMap ACG))(hs:∀x∈xs,Jr w x.2 x.1.2.2):Fv w v (xs.map (·.1)):=by
 rcases c.2 with⟨a,e⟩|⟨g,cap,k,a,l,m,h⟩
 ·have:xs=[]:=xE e
  subst this;exact⟨none,0,a,wQ _,Or.inl rfl⟩
 ·subst a
  refine⟨some ⟨g,0,none⟩,cap,by rw[xT],by rw[xT];exact h.1,Or.inr ⟨g,0,rfl,fun j r d=>?_⟩⟩;rw[xI]at d;obtain⟨x,b,rfl⟩:=yC.1 d;have n:j<xs.length:=(wU.1 b).1;have q:∀i,i<3->w.cell? ⟨g,0+j*3+i,none⟩=(ACG x)[i]?:=fun i f=>by
   rw[Nat.zero_add,c.cellAt _ (by omega)];exact AFW xs j x i b f
  exact⟨q 0 (by omega),q 1 (by omega),x.2,q 2 (by omega),hs x (wT b)⟩
theorem AGU{w:World}{T:Nat}{c:Be}{ys:List AY}(b:GN w T c ys)(r:AY)(aw:Value)(L:Jr w aw r.2.2)(hs:Ij c ys=true)(Q:Ij c (ys++[r])=true)(E:QI (ys++[r])):
 Calls prog 31 #[.pointer (some ⟨T,0,none⟩),.agg #[.string r.1,.string r.2.1,aw]] w (AEo w c (ys++[r])):=by
 unfold AEo;obtain⟨S,bg,vL,D,t,am,aX,ai⟩:=b.read;have aj:∀y∈ys,y.2.2.length<=1000000:=fun y W=>by have:=(E.c y (List.mem_append_left _ W)).2.1;omega
 have ab:=Aa (fun(d:World) (K:yG w d)=>(show∃(a:Option Addr) (cap:Nat) (u v:Value),d.heap[T]?=some (.cells #[.slice a ys.length cap,u,v] 67 (0,0))/\ys.length<=201/\(ys=[]\/∃ag,a=some ⟨ag,0,none⟩/\∀j y,ys[j]?=some y->AEq d ag j y)from(b.below K).told (fun y W=>(((ACQ c ys).1 hs).2.1 y W).1) aj));have ad:=Aa (fun(d:World) (K:yG w d)=>by
  obtain⟨a,cap,u,v,a7,a8,a9⟩:=ab.o d K;exact AFj ys a cap u v a7 a8 a9)
 obtain⟨f,g,aY,_⟩:=id L;subst aY;have hid:r.2.1.size<=maxLen:=by have:=(E.c r (by simp)).1;unfold maxLen;omega
 have aW:=NC r.2.1 hid;have N:=aX.hasP r.2.1;have al:r.2.1∉ys.map (fun y=>y.2.1):=by
  have:=((ACQ c (ys++[r])).1 Q).2.2.1;rw[xY,List.nodup_append]at this;exact fun aR=>this.2.2 _ aR _ (by simp) rfl
 rw[NM _ _ al]at N;have aa:=Aa t;have aE:=Aa ai;have aA:=Aa L;have aF:=Aa E;have aG:=Aa Q;have aO:=Ac t;have X:=Ab t;have bj:ys.length<=200:=((ACQ c ys).1 hs).1;clear t ai L E Q al b aj hs ab;go_enter func31,ntmps31;obtain⟨iY,aV,ba,bb,bc⟩:=info_parts info38;go_wp2_with fail;have I:=wX w (.cells #[.string r.1,.string r.2.1,.slice f r.2.2.length g] 38);have A:=bA (wR w.heap.size w) (.cells #[.string r.1,.string r.2.1,.slice f r.2.2.length g] 38);generalize w.alloc (.cells #[.string r.1,.string r.2.1,.slice f r.2.2.length g] 38)=p at*;refine(ad.o p A).mono ?_;rintro _ w2 ⟨bo,xs,rfl,P,au,V,s⟩;obtain⟨aK,aN,aZ⟩:=An P;subst aZ;have bl:=A.size;have a4:=Ab I;have h:=bT A s;have n:=Aa P;have Z:=Aa au;have aI:=Aa V;have i:=Aa h;have av:xs.length=ys.length:=by rw[<-V,xT]
 have ap:=am.below h;have J:=(s.block _ a4).trans I;have aL:=Ac J;have bm:=Ab J;have aP:=Ac ((h.block _ X).trans aa.o);have a5:=xA X h.size;have ax:=Aa ((h.block _ X).trans aa.o);have a6:T<p.heap.size:=by omega
 have aH:=Aa av;have bi:xs.length<=200:=by omega
 have bk:=s.size;clear P au V h s I A ad aO am J av;obtain⟨c0,ar, -⟩:=nE ap.drew r.2.1 hid;rw[N]at ar;clear ap N aW;go_wp2;go_region;all_goals(
  clear ar;have F:=Aa (i.o.trans ((wR w2.heap.size w2).drew.mono i.o.size));have aC:=Aa (AT n.o (wR w2.heap.size w2).drew);have bd:=Aa (fun x a2=>AT (Z.o x a2) (wR w2.heap.size w2).drew);have aM:=aL;have aQ:=aP;go_wp2_with (at_builtin;refine wpList_append_lies _ rfl _ _ 22 rfl p.heap.size 38 iY _ 3 56 underlying22 aV ba bb bc rfl (by decide) _ _ _ rfl (aC.o.alloc _) ⟨w2.drew.heap.size,0,none⟩ 1 1 [.string r.1,.string r.2.1,.slice f r.2.2.length g] rfl rfl (Cz _ _ _ _ (by simp)) (AEW rfl rfl rfl) (by decide) (by unfold maxLen;omega) (by omega) (by simp;omega) (w2.drew.heap.size+1) (by simp) ?_;intro H G l ao M a1 ak;have U:∀k,k<w2.heap.size->Option.some k≠(Value.slice aK xs.length aN).ownBlock->l.heap[k]?=w2.heap[k]?:=fun k aS aT=>(M.block k (by simp;omega) aT).trans (AJ _ _ _ aS);have gT:=(U T a5 (pP n.o a6).symm).trans ax.o;have bh:=Ac gT;have bn:=Ab gT;have ae:=Aa U;have aD:=Aa ao;have m:=Aa M;have bf:=Aa ak;clear U ao M a1 ak gT aM aQ);have aU:=m.o.size;simp at aU;have C:yG w l:=⟨m.o.os.trans F.o.os,m.o.tape.trans F.o.tape,m.o.output.trans F.o.output,by have:=i.o.size;omega,fun k b=>(ae.o k (by have:=i.o.size;omega) (pP n.o (by omega)).symm).trans (i.o.block k b)⟩;have aq:Fv l (.slice (some ⟨H,0,none⟩) (xs.length+1) G) (ys++[r]):=by
   have a0:l.ownsRow p.heap.size 38 3 (.slice (some ⟨H,0,none⟩) (xs.length+1) G) (xs++[(r,Value.slice f r.2.2.length g)]).length ((xs++[(r,Value.slice f r.2.2.length g)]).flatMap ACG):=by
    rw[xJ,List.flatMap_append];exact aD.o
   have:=AFZ a0 (fun z a3=>?_)
   ·rw[xY,aI.o]at this;exact this
   ·rcases yD.1 a3 with q|q
    ·have R:=Z.o z q
     exact(ACR.of_own (B:=fun _=>True) (So R (fun k b=>ae.o k (Ln R k b) (fun e=>AEZ n.o R (by decide) k b e.symm))) (fun _ _=>trivial)).at
    ·simp at q;subst q
     exact aA.o.below C
  have O:xs.length+1=(ys++[r]).length:=by rw[xJ,aH.o];rfl
  have Y:=Aa (aE.o l C (some ⟨H,0,none⟩) G (ys++[r]) (by rw[<-O];exact aq) aF.o aG.o);rw[<-O]at Y;have az:=Aa C;clear aq O C;go_wp2_with fail;refine Y.o.mono ?_;rintro _ bp ⟨aJ,rfl,af,ah⟩;have aB:=Aa ah;have ay:=Aa (bT az.o af);clear ah af;go_wp2;go_ret2;exact⟨aJ,rfl,ay.o,aB.o⟩)
theorem AFa{T:TypeId}{d:Nat×Nat}{b:Nat}:∀(a:List Value) (o:Nat) (w:World) (cs:Array Value),w.heap[b]?=some (.cells cs T d)->o+a.length<=cs.size->∃c,(w.setCells b o a).heap[b]?=some (.cells c T d)/\c.size=cs.size/\∀i,c[i]?=if o<=i/\i<o+a.length then a[i-o]? else cs[i]?
 |[],o,w,cs,h,_=>⟨cs,h,rfl,fun i=>by rw[xG (by simp)]⟩
 |v::a,o,w,cs,h,hl=>by
  rw[xU]at hl;obtain⟨c,j,k,l⟩:=AFa a (o+1) (w.setCell ⟨b,o,none⟩ v) _ (AI h o v) (by simp;omega);refine⟨c,j,by rw[k];simp,fun i=>?_⟩;rw[l i,xU];by_cases g:i=o
  ·subst g
   rw[xG (by omega),xH (by omega),Nat.sub_self,List.getElem?_cons_zero,Array.getElem?_setIfInBounds_self,xH (by omega)]
  ·rw[xV (fun e=>g e.symm)]
   by_cases f:o+1<=i/\i<o+1+a.length
   ·rw[xH f,xH (by omega),show i-o=(i-(o+1))+1 by omega,List.getElem?_cons_succ]
   ·rw[xG f,xG (by omega)]
theorem AFb(b:Nat):∀(a:List Value) (o:Nat) (w:World),Ag b w (w.setCells b o a)
 |[],_,w=>Ag.refl b w
 |v::a,o,w=>by
  have:=AFb b a (o+1) (w.setCell ⟨b,o,none⟩ v);exact((Ag.refl b w).setCell o v).trans this
theorem AFn{w:World}{g cap n:Nat}{d:Array Value}(q:w.heap[g]?=some (.cells d 38 (0,0)))(z:d.size=cap*3)(ab:1<=n)(ae:n<=cap)(Q:cap<=maxLen)(F:∀u∈d.toList.take (n*3),u.oneCell'=true):
 Calls prog 51 #[.slice (some ⟨g,0,none⟩) n cap,.int .i64 0,.int .i64 1] w fun e w'=>e=.returned (.slice (some ⟨g,0,none⟩) (n-1) cap)/\∃v,w'.heap[g]?=some (.cells v 38 (0,0))/\v.size=cap*3/\v.toList.take ((n-1)*3)=(d.toList.drop 3).take ((n-1)*3)/\Ag g w w':=by
 unfold maxLen at Q;obtain⟨U,R,af,Y,ag⟩:=info_parts info38;obtain⟨news,m⟩:∃news,news=(d.toList.drop 3).take ((n-1)*3):=⟨_,rfl⟩;have D:d.toList.length=cap*3:=by rw[Array.length_toList];exact z
 have l:news.length=(n-1)*3:=by rw[m,List.length_take,List.length_drop,D];omega
 obtain⟨p,Z,S⟩:∃p:Addr,(if cap=1 then some (⟨g,0,none⟩:Addr)else some ⟨g,3,none⟩)=some p/\Hi (∀t u,news[t]?=some u->w.drew.cell? (p.add t)=some u):=by
  by_cases h:cap=1
  ·refine⟨⟨g,0,none⟩,by simp[h],fun t u b=>?_⟩
   have O:news.length=0:=by rw[l];omega
   rw[List.length_eq_zero_iff.1 O]at b;simp at b
  ·refine⟨⟨g,3,none⟩,by simp[h],fun t u b=>?_⟩
   have f:t<(n-1)*3:=by
    have:=(wU.1 b).1
    rwa [l]at this
   rw[m,List.getElem?_take,xH f,List.getElem?_drop,Array.getElem?_toList]at b;rw[Addr.add_lit];exact(Ac (w:=w.drew) q (3+t)).trans b
 have W:Hi (∀u∈news,u.oneCell'=true):=fun u b=>by
  rw[m]at b;refine F u (List.mem_of_mem_drop (i:=3) ?_);rw[List.drop_take,show n*3-3=(n-1)*3 by omega];exact b
 have X:Hi (∀t,t<news.length->(w.drew.cell? ⟨g,0+0*3+t,none⟩).isSome=true/\w.drew.frozen? ⟨g,0+0*3+t,none⟩=false):=fun t f=>by
  rw[l]at f;refine⟨?_,Ak (w:=w.drew) q _⟩;rw[Ac (w:=w.drew) q,Array.getElem?_eq_getElem (by omega)];rfl
 obtain⟨a,x⟩:∃a,a=w.drew.setCells g (0+0*3) news:=⟨_,rfl⟩;obtain⟨c1,k,G,E⟩:=AFa news (0+0*3) w.drew d q (by omega);rw[<-x]at k;have y:∀j,j<3->(a.cell? ⟨g,(n-1)*3+j,none⟩).isSome=true/\a.frozen? ⟨g,(n-1)*3+j,none⟩=false:=fun j r=>by
  refine⟨?_,Ak k _⟩;rw[Ac k,Array.getElem?_eq_getElem (by omega)];rfl
 have aa:∀H c,(Builtin.clear_ #[22] H #[.slice (some ⟨g,(n-1)*3,none⟩) (n-(n-1)) c]).run prog a=.ok (.tuple #[]) (a.setCells g ((n-1)*3) [.string ⟨#[]⟩,.string ⟨#[]⟩,.slice none 0 0]):=fun H c=>by
  rw[show n-(n-1)=1 by omega];have h:=run_storeCells_cells (P:=prog) g ((n-1)*3) [.string ⟨#[]⟩,.string ⟨#[]⟩,.slice none 0 0] 0 a (fun j r=>(y j r).1) (fun j r=>(y j r).2) (AEW rfl rfl rfl);simp only[Nat.add_zero]at h;have T:(Builtin.zeroCells (Value.agg #[.string ⟨#[]⟩,.string ⟨#[]⟩,.slice none 0 0]).cells 1).toList=[.string ⟨#[]⟩,.string ⟨#[]⟩,.slice none 0 0]:=by kernel_rfl
  simp[Builtin.clear_,run_underlying underlying22,zeroValue38,T,h]
 have C:Hi (a=w.drew.setCells g (0+0*3) news):=x;have I:=Aa k;have B:=Aa G;have J:=Aa E;have s:=Aa l;have K:=Aa m;have A:=Aa z;have ad:(1:Int)<=(n:Int):=by omega
 clear x k G E y D m l z F;go_enter func51,ntmps51;go_wp2;go_region_law (refine step_append_room rfl (.tmp 22) (.tmp 25) 22 rfl 38 U 3 underlying22 R Y g 0 0 cap (by simp[Act.eval,Act.put]) p (n-1) (cap-1) news (by simp[Act.eval,Act.put]) s.o S.o W.o (by omega) X.o ?_;rw[<-C.o]);all_goals(try go_wp2_with fail)
 go_ret;obtain⟨c2,L,M,N⟩:=AFa [.string ⟨#[]⟩,.string ⟨#[]⟩,.slice none 0 0] ((n-1)*3) a c1 I.o (by rw[B.o,A.o];show(n-1)*3+3<=_;omega);refine⟨by simp,c2,L,by rw[M,B.o,A.o],?_,?_⟩
 ·rw[<-K.o]
  refine List.ext_getElem? (fun t=>?_);rw[List.getElem?_take];by_cases f:t<(n-1)*3
  ·rw[xH f,Array.getElem?_toList,N t,xG (by omega),J.o t,xH (by have:=s.o;omega)]
   simp
  ·rw[xG f,List.getElem?_eq_none (by have:=s.o;omega)]
 ·have V:Ag g w a:=by rw[C.o];exact(show Ag g w w.drew from⟨rfl,rfl,rfl,wQ _,fun _ _ _=>rfl⟩).trans (AFb g news _ w.drew)
  exact V.trans (AFb g _ _ a)
theorem AGY{w:World}{ys:List AY}{v:Nat}(A:1<=ys.length)(l:Calls prog 50 #[.pointer (some ⟨v,0,none⟩)] w (AFk w ys)):
 Calls prog 50 #[.pointer (some ⟨v,0,none⟩)] w fun e w'=>∃(g cap:Nat) (b:Array Value) (xs:List AFJ),e=.returned (.slice (some ⟨g,0,none⟩) ys.length cap)/\w.heap.size<=g/\w'.heap[g]?=some (.cells b 38 (0,0))/\b.size=cap*3/\ys.length<=cap/\cap<=maxLen/\b.toList.take (ys.length*3)=xs.flatMap ACG/\(∀u∈xs.flatMap ACG,u.oneCell'=true)/\(∀x∈xs,w'.ownsRow w.heap.size 41 2 x.2 x.1.2.2.length (x.1.2.2.flatMap flC))/\xs.map (·.1)=ys/\yG w w':=by
 refine l.mono ?_;rintro _ w' ⟨B,xs,rfl,s,i,k,hb⟩;have r:xs.length=ys.length:=by rw[<-k,xT]
 rcases s.2 with⟨_,z⟩|⟨g,cap,b,j,p,q,f,m,n,h⟩
 ·omega
 ·rw[r]at j f h
  refine⟨g,cap,b,xs,by rw[j],p,q,n,f,m,h,fun u t=>?_,i,k,hb⟩;obtain⟨x,y,d⟩:=List.mem_flatMap.1 t;obtain⟨a,c,e⟩:=An (i x y);unfold ACG at d;rw[e]at d;simp only[yE,List.not_mem_nil,or_false]at d;rcases d with rfl|rfl|rfl<;>rfl
theorem AFq{w2 w3:World}{B g cap:Nat}{b c:Array Value}{xs:List AFJ}{r:AY}{ys:List AY}(t:w2.heap[g]?=some (.cells b 38 (0,0)))(A:b.toList.take ((r::ys).length*3)=xs.flatMap ACG)(h:xs.map (·.1)=r::ys)(s:w3.heap[g]?=some (.cells c 38 (0,0)))(i:c.size=cap*3)(v:(r::ys).length<=cap)(w:cap<=maxLen)(f:c.toList.take (((r::ys).length-1)*3)=(b.toList.drop 3).take (((r::ys).length-1)*3))(y:∀x∈xs,w2.ownsRow B 41 2 x.2 x.1.2.2.length (x.1.2.2.flatMap flC))(E:Ag g w2 w3):Fv w3 (.slice (some ⟨g,0,none⟩) ys.length cap) ys:=by
 cases xs with
 |nil=>simp at h
 |cons F a=>
  rw[List.map_cons]at h;have p:=(List.cons.inj h).2;have n:a.length=ys.length:=by rw[<-p,xT]
  have e:((r::ys).length-1)*3=ys.length*3:=by rw[xU,Nat.add_sub_cancel]
  rw[e]at f;have q:(b.toList.drop 3).take (ys.length*3)=a.flatMap ACG:=by
   have:=congrArg (List.drop 3) A;rw[List.drop_take,xU,show(ys.length+1)*3-3=ys.length*3 by omega]at this;rw[this];rfl
  rw[q]at f;have u:(a.flatMap ACG).length=a.length*3:=by
   have:∀l:List AFJ,(l.flatMap ACG).length=l.length*3:=fun l=>by induction l with
    |nil=>rfl
    |cons d l D=>rw[List.flatMap_cons,xJ,D];simp[ACG];omega
   exact this a
  have C:w3.ownsRow 0 38 3 (.slice (some ⟨g,0,none⟩) ys.length cap) a.length (a.flatMap ACG):=by
   rw[n];exact⟨by rw[u,n],.inr ⟨g,cap,c,rfl,wZ _,s,by rw[xU]at v;omega,w,i,f⟩⟩
  have:=AFZ C (fun z i=>?_)
  ·rw[p]at this;exact this
  ·have j:=y z (yA _ i)
   exact(ACR.of_own (B:=fun _=>True) (So j (fun k m=>E.block k (Ln j k m) (fun e=>AFX j t (by decide) (by rw[<-e];exact m)))) (fun _ _=>trivial)).at
theorem AGM{w:World}{T:Nat}{c:Be}{r:AY}{ys:List AY}(C:GN w T c (r::ys))(hs:Ij c (r::ys)=true)(d:QI (r::ys)):
 Calls prog 33 #[.pointer (some ⟨T,0,none⟩),.string r.2.1] w (AEo w c ys):=by
 unfold AEo;obtain⟨S,ay,vL,D,i,G,H,Q⟩:=C.read;have U:∀y∈r::ys,y.2.2.length<=1000000:=fun y e=>by have:=(d.c y e).2.1;omega
 have b:=(ACQ c (r::ys)).1 hs;have aw:=Aa (fun(m:World) (t:yG w m)=>by
  obtain⟨a,cap,u,v,aI,aJ,aK⟩:=(C.below t).told (fun y e=>(b.2.1 y e).1) U;exact AGY (by rw[xU];omega) (AFj (r::ys) a cap u v aI aJ aK))
 have hid:r.2.1.size<=maxLen:=by have:=(d.c r (by simp)).1;unfold maxLen;omega
 obtain⟨c0,Z,x⟩:=nE G.drew r.2.1 hid;obtain⟨c1,aa,A⟩:=nE G r.2.1 hid;have F:r.2.1∈(r::ys).map (fun y=>y.2.1):=by simp
 rw[H.hasP,(FD _ _).2 F]at Z aa;obtain⟨j,W,ah⟩:=H.val r.2.1 F;have aG:j=0:=by
  have O:=Ma _ _ j b.2.2.1 W;have aO:=Ma _ r.2.1 0 b.2.2.1 (by simp);omega
 subst aG;rw[ah]at x A;have aC:c0=0:=by simpa using x.symm
 have O:c1=0:=by simpa using A.symm
 subst aC O;have aL:=Aa i;have ad:Ij c ys=true:=AEr hs (by have:=b.1;rw[xU]at this;omega) (by have:=b.2.2.1;rw[List.map_cons,List.nodup_cons]at this;exact this.2) (fun z aH=>⟨z,yA _ aH,rfl,rfl,List.Sublist.refl _⟩);have ab:QI ys:=⟨by have:=d.l;rw[xU]at this;omega,fun y e=>d.c y (yA _ e)⟩;have ar:=Aa (fun m t a aB aD=>Q m t a aB ys aD ab ad);have aA:=Ac i;have ak:=Ab i;have aP:ys.length<=199:=by have:=b.1;rw[xU]at this;omega
 clear i Q d ad C U hs b x A ah W F G H ab;go_enter func33,ntmps33;have f:=Aa (fun V (s:yG w V)=>xZ s (xZ (fun k=>(s.cell (p:=⟨T,k,none⟩) ak).trans (aA k)) (xA ak s.size)));go_wp2_with fail;clear Z aa;go_region_held3 (fun V=>yG w V/\(∀k,V.cell? ⟨T,k,none⟩=(#[vL,.pointer (some ⟨S,0,none⟩),.map (some ay)]:Array Value)[k]?)/\T<V.heap.size)
  (first|exact f.o _ (wR _ _).drew|exact f.o _ (bT h K)|exact f.o _ M|exact f.o _ (bT q L))
  (first|(go_at_call 50;obtain⟨h, -⟩:= ‹yG w _/\_›;refine(aw.o _ h).mono ?_;rintro _ w2 ⟨g,cap,aM,xs,rfl,aE,B,af,E,X,I,Y,ae,ai,K⟩;have aF:w.heap.size<=g:=wV h.size aE;have ao:=Aa (AFn B af (by rw[xU];omega) E X (by rw[I];exact Y));have av:=Aa I;have au:=Aa ae;have ax:=Aa ai;have am:=Aa B;have aq:=Aa E;clear B af E Y ae ai I)|(go_at_call 51;obtain⟨n, -⟩:= ‹yG w _/\_›;refine ao.o.mono ?_;rintro _ w3 ⟨rfl,aN,R,aj,ag,J⟩;have M:=n.trans (J.below aF n.size))|(go_at_call 35;obtain⟨q, -⟩:= ‹yG w _/\_›;refine(ar.o _ q (some ⟨g,0,none⟩) cap (AFq am.o av.o ax.o R aj aq.o X ag au.o J)).mono ?_;rintro _ w4 ⟨az,rfl,L,P⟩;have ap:=Aa P;clear P))
 all_goals(
  obtain⟨N, -⟩:= ‹yG w _/\_›;have al:=Aa N;clear N L K n M q h J R aj ag
  (try go_wp2_with fail)
  go_ret2;exact⟨az,rfl,al.o,ap.o⟩)
end Go.Proofs.YtogdodlibkckkaaGreatDoor
