import Derived.Test.YtogdodlibkckkaaGreatDoorZS1
import Derived.Test.YtogdodlibkckkaaGreatDoorZ48
import Derived.Deep.RegionLaw
import Derived.Lib.SliceRun
namespace Go.Proofs.YtogdodlibkckkaaGreatDoor
set_option maxHeartbeats 20000000
set_option maxRecDepth 100000
open Go.RowKit Tryz
open Go.Maps Tryz
theorem GN.read{w:World}{T:Nat}{c:Be}{ys:List AY}(L:GN w T c ys):∃S h vL D,w.heap[T]?=some (.cells #[vL,.pointer (some ⟨S,0,none⟩),.map (some h)] 67 (0,0))/\BS w h ys.length D/\PM (ys.map (fun y=>y.2.1)) D/\∀f,yG w f->∀(a:Option Addr) (k:Nat) (d:List AY),Fv f (.slice a d.length k) d->QI d->Ij c d=true->Calls prog 35 #[.pointer (some ⟨S,0,none⟩),.slice a d.length k] f fun e w'=>∃i,e=.returned (.tuple #[.pointer (some ⟨i,0,none⟩),.int .i64 0])/\yG f w'/\GN w' i c d:=by
 obtain⟨S,K,Z,Y,W,aa,X,J,t,s,n,F,V,p,H,r,C,O⟩:=L.ex;obtain⟨h,B,vL,I,z,M,N⟩:=O.ex;have R:I.map AE.id=ys.map (fun y=>y.2.1):=by
  refine List.ext_getElem? (fun j=>?_);rw[xI,xI];cases g:I[j]? with
  |none=>
   have:ys[j]?=none:=by rw[List.getElem?_eq_none_iff]at g⊢;omega
   rw[this];rfl
  |some q=>
   obtain⟨y,G⟩:∃y,ys[j]?=some y:=⟨_,wS (by have:=(wU.1 g).1;omega)⟩;rw[G];exact congrArg some (N j q y g G).id
 obtain⟨D,u,v⟩:=z.m;rw[R]at v;rw[M]at u;refine⟨S,h,vL,D,z.b,u,v,fun f A a k d Q E U=>?_⟩;have x:Lt (t.map Prod.fst) (s.map iN) (n.map uN) (n.map Prod.fst) d=true:=by
  rw[<-U];unfold Ij;rw[p,r,<-H,<-r,List.map_map,List.map_map];rfl
 refine(tQ f (F.below A) C a k d Q E.l E.c).mono ?_;rintro _ w' ⟨q,rfl,hb,g⟩;obtain⟨i,rfl,P⟩:=g x;refine⟨i,by rw[xH x],hb,S,K,Z,Y,W,aa,X,J,t,s,n,(F.below A).below hb,V,p,H,r,C,?_⟩;rw[<-p];exact P
theorem AFW:∀(xs:List AFJ) (a:Nat) (c:AFJ) (j:Nat),xs[a]?=some c->j<3->(xs.flatMap ACG)[a*3+j]?=(ACG c)[j]?
 |[],a,t,j,b,_=>by simp at b
 |x::e,0,t,j,b,d=>by
  simp at b;subst b;rw[List.flatMap_cons,xN (by show _<3;omega)];simp
 |x::e,a+1,t,j,b,d=>by
  rw[List.flatMap_cons,xO (by show 3<=_;omega)];rw[show(a+1)*3+j-(ACG x).length=a*3+j by show(a+1)*3+j-3=_;omega];exact AFW e a t j (by simpa using b) d
theorem AFZ{w:World}{B:Nat}{v:Value}{xs:List AFJ}(c:w.ownsRow B 38 3 v xs.length (xs.flatMap ACG))(hs:∀x∈xs,Jr w x.2 x.1.2.2):Fv w v (xs.map (·.1)):=by
 rcases c.2 with⟨a,e⟩|⟨g,cap,k,a,l,m,h⟩
 ·have:xs=[]:=xE e
  subst this;exact⟨none,0,a,wQ _,Or.inl rfl⟩
 ·subst a
  refine⟨some ⟨g,0,none⟩,cap,by rw[xT],by rw[xT];exact h.1,Or.inr ⟨g,0,rfl,fun j r d=>?_⟩⟩;rw[xI]at d;obtain⟨x,b,rfl⟩:=yC.1 d;have n:j<xs.length:=(wU.1 b).1;have q:∀i,i<3->w.cell? ⟨g,0+j*3+i,none⟩=(ACG x)[i]?:=fun i f=>by
   rw[Nat.zero_add,c.cellAt _ (by omega)];exact AFW xs j x i b f
  exact⟨q 0 (by omega),q 1 (by omega),x.2,q 2 (by omega),hs x (wT b)⟩
theorem AGU{w:World}{T:Nat}{c:Be}{ys:List AY}(b:GN w T c ys)(r:AY)(ax:Value)(M:Jr w ax r.2.2)(hs:Ij c ys=true)(R:Ij c (ys++[r])=true)(F:QI (ys++[r])):
 Calls prog 31 #[.pointer (some ⟨T,0,none⟩),.agg #[.string r.1,.string r.2.1,ax]] w fun e w'=>∃p,e=.returned (.tuple #[.pointer (some ⟨p,0,none⟩),.int .i64 0])/\yG w w'/\GN w' p c (ys++[r]):=by
 obtain⟨S,bg,vL,D,A,ao,aX,aj⟩:=b.read;have ak:∀y∈ys,y.2.2.length<=1000000:=fun y X=>by have:=(F.c y (List.mem_append_left _ X)).2.1;omega
 have ad:=Aa (fun(d:World) (L:yG w d)=>(show∃(a:Option Addr) (cap:Nat) (u v:Value),d.heap[T]?=some (.cells #[.slice a ys.length cap,u,v] 67 (0,0))/\ys.length<=201/\(ys=[]\/∃ah,a=some ⟨ah,0,none⟩/\∀j y,ys[j]?=some y->AEq d ah j y)from(b.below L).told (fun y X=>(((ACQ c ys).1 hs).2.1 y X).1) ak));have ae:=Aa (fun(d:World) (L:yG w d)=>by
  obtain⟨a,cap,u,v,a7,a8,a9⟩:=ad.o d L;exact AFj ys a cap u v a7 a8 a9)
 obtain⟨f,g,aY,_⟩:=id M;subst aY;have hid:r.2.1.size<=maxLen:=by have:=(F.c r (by simp)).1;unfold maxLen;omega
 have aW:=NC r.2.1 hid;have O:=aX.hasP r.2.1;have am:r.2.1∉ys.map (fun y=>y.2.1):=by
  have:=((ACQ c (ys++[r])).1 R).2.2.1;rw[xY,List.nodup_append]at this;exact fun aR=>this.2.2 _ aR _ (by simp) rfl
 rw[NM _ _ am]at O;have ab:=Aa A;have aF:=Aa aj;have aB:=Aa M;have aG:=Aa F;have aH:=Aa R;have aO:=Ac A;have Y:=Ab A;have bj:ys.length<=200:=((ACQ c ys).1 hs).1;clear A aj M F R am b ak hs ad;go_enter func31,ntmps31;obtain⟨iY,aV,ba,bb,bc⟩:=info_parts info38;go_wp2_with fail;have J:=wX w (.cells #[.string r.1,.string r.2.1,.slice f r.2.2.length g] 38);have C:=bA (wR w.heap.size w) (.cells #[.string r.1,.string r.2.1,.slice f r.2.2.length g] 38);generalize w.alloc (.cells #[.string r.1,.string r.2.1,.slice f r.2.2.length g] 38)=s at*;refine(ae.o s C).mono ?_;rintro _ w2 ⟨bo,xs,rfl,Q,av,W,t⟩;obtain⟨aK,aN,aZ⟩:=An Q;subst aZ;have bl:=C.size;have a4:=Ab J;have h:=bT C t;have n:=Aa Q;have aa:=Aa av;have aJ:=Aa W;have i:=Aa h;have aw:xs.length=ys.length:=by rw[<-W,xT]
 have aq:=ao.below h;have K:=(t.block _ a4).trans J;have aL:=Ac K;have bm:=Ab K;have aP:=Ac ((h.block _ Y).trans ab.o);have a5:=xA Y h.size;have ay:=Aa ((h.block _ Y).trans ab.o);have a6:T<s.heap.size:=by omega
 have aI:=Aa aw;have bi:xs.length<=200:=by omega
 have bk:=t.size;clear Q av W h t J C ae aO ao K aw;obtain⟨c0,au, -⟩:=nE aq.drew r.2.1 hid;rw[O]at au;clear aq O aW;go_wp2;go_region;all_goals(
  clear au;have G:=Aa (i.o.trans ((wR w2.heap.size w2).drew.mono i.o.size));have aD:=Aa (AT n.o (wR w2.heap.size w2).drew);have bd:=Aa (fun x a2=>AT (aa.o x a2) (wR w2.heap.size w2).drew);have aM:=aL;have aQ:=aP;go_wp2_with (at_builtin;refine wpList_append_lies _ rfl _ _ 22 rfl s.heap.size 38 iY _ 3 56 underlying22 aV ba bb bc rfl (by decide) _ _ _ rfl (aD.o.alloc _) ⟨w2.drew.heap.size,0,none⟩ 1 1 [.string r.1,.string r.2.1,.slice f r.2.2.length g] rfl rfl (Cz _ _ _ _ (by simp)) (AEW rfl rfl rfl) (by decide) (by unfold maxLen;omega) (by omega) (by simp;omega) (w2.drew.heap.size+1) (by simp) ?_;intro I H l ap N a1 al;have V:∀k,k<w2.heap.size->Option.some k≠(Value.slice aK xs.length aN).ownBlock->l.heap[k]?=w2.heap[k]?:=fun k aS aT=>(N.block k (by simp;omega) aT).trans (AJ _ _ _ aS);have gT:=(V T a5 (pP n.o a6).symm).trans ay.o;have bh:=Ac gT;have bn:=Ab gT;have af:=Aa V;have aE:=Aa ap;have m:=Aa N;have bf:=Aa al;clear V ap N a1 al gT aM aQ);have aU:=m.o.size;simp at aU;have E:yG w l:=⟨m.o.os.trans G.o.os,m.o.tape.trans G.o.tape,m.o.output.trans G.o.output,by have:=i.o.size;omega,fun k b=>(af.o k (by have:=i.o.size;omega) (pP n.o (by omega)).symm).trans (i.o.block k b)⟩;have ar:Fv l (.slice (some ⟨I,0,none⟩) (xs.length+1) H) (ys++[r]):=by
   have a0:l.ownsRow s.heap.size 38 3 (.slice (some ⟨I,0,none⟩) (xs.length+1) H) (xs++[(r,Value.slice f r.2.2.length g)]).length ((xs++[(r,Value.slice f r.2.2.length g)]).flatMap ACG):=by
    rw[xJ,List.flatMap_append];exact aE.o
   have:=AFZ a0 (fun z a3=>?_)
   ·rw[xY,aJ.o]at this;exact this
   ·rcases yD.1 a3 with q|q
    ·have U:=aa.o z q
     exact(ACR.of_own (B:=fun _=>True) (So U (fun k b=>af.o k (Ln U k b) (fun e=>AEZ n.o U (by decide) k b e.symm))) (fun _ _=>trivial)).at
    ·simp at q;subst q
     exact aB.o.below E
  have P:xs.length+1=(ys++[r]).length:=by rw[xJ,aI.o];rfl
  have Z:=Aa (aF.o l E (some ⟨I,0,none⟩) H (ys++[r]) (by rw[<-P];exact ar) aG.o aH.o);rw[<-P]at Z;have aA:=Aa E;clear ar P E;go_wp2_with fail;refine Z.o.mono ?_;rintro _ bp ⟨p,rfl,ag,ai⟩;have aC:=Aa ai;have az:=Aa (bT aA.o ag);clear ai ag;go_wp2;go_ret2;exact⟨p,rfl,az.o,aC.o⟩)
theorem AFa{T:TypeId}{d:Nat×Nat}{b:Nat}:∀(a:List Value) (o:Nat) (w:World) (cs:Array Value),w.heap[b]?=some (.cells cs T d)->o+a.length<=cs.size->∃c,(w.setCells b o a).heap[b]?=some (.cells c T d)/\c.size=cs.size/\∀i,c[i]?=if o<=i/\i<o+a.length then a[i-o]? else cs[i]?
 |[],o,w,cs,h,_=>⟨cs,h,rfl,fun i=>by rw[xG (by simp)]⟩
 |v::a,o,w,cs,h,hl=>by
  rw[xU]at hl;obtain⟨c,j,k,l⟩:=AFa a (o+1) (w.setCell ⟨b,o,none⟩ v) _ (AI h o v) (by simp;omega);refine⟨c,j,by rw[k];simp,fun i=>?_⟩;rw[l i,xU];by_cases g:i=o
  ·subst g
   rw[xG (by omega),xH (by omega),Nat.sub_self,List.getElem?_cons_zero,Array.getElem?_setIfInBounds_self,xH (by omega)]
  ·rw[xV (fun e=>g e.symm)]
   by_cases f:o+1<=i/\i<o+1+a.length
   ·rw[xH f,xH (by omega),show i-o=(i-(o+1))+1 by omega,List.getElem?_cons_succ]
   ·rw[xG f,xG (by omega)]
theorem AFb(b:Nat):∀(a:List Value) (o:Nat) (w:World),Ag b w (w.setCells b o a)
 |[],_,w=>Ag.refl b w
 |v::a,o,w=>by
  have:=AFb b a (o+1) (w.setCell ⟨b,o,none⟩ v);exact((Ag.refl b w).setCell o v).trans this
theorem AFn{w:World}{g cap n:Nat}{d:Array Value}(q:w.heap[g]?=some (.cells d 38 (0,0)))(z:d.size=cap*3)(ab:1<=n)(ae:n<=cap)(Q:cap<=maxLen)(F:∀u∈d.toList.take (n*3),u.oneCell'=true):
 Calls prog 51 #[.slice (some ⟨g,0,none⟩) n cap,.int .i64 0,.int .i64 1] w fun e w'=>e=.returned (.slice (some ⟨g,0,none⟩) (n-1) cap)/\∃v,w'.heap[g]?=some (.cells v 38 (0,0))/\v.size=cap*3/\v.toList.take ((n-1)*3)=(d.toList.drop 3).take ((n-1)*3)/\Ag g w w':=by
 unfold maxLen at Q;obtain⟨U,R,af,Y,ag⟩:=info_parts info38;obtain⟨news,m⟩:∃news,news=(d.toList.drop 3).take ((n-1)*3):=⟨_,rfl⟩;have D:d.toList.length=cap*3:=by rw[Array.length_toList];exact z
 have l:news.length=(n-1)*3:=by rw[m,List.length_take,List.length_drop,D];omega
 obtain⟨p,Z,S⟩:∃p:Addr,(if cap=1 then some (⟨g,0,none⟩:Addr)else some ⟨g,3,none⟩)=some p/\Hi (∀t u,news[t]?=some u->w.drew.cell? (p.add t)=some u):=by
  by_cases h:cap=1
  ·refine⟨⟨g,0,none⟩,by simp[h],fun t u b=>?_⟩
   have O:news.length=0:=by rw[l];omega
   rw[List.length_eq_zero_iff.1 O]at b;simp at b
  ·refine⟨⟨g,3,none⟩,by simp[h],fun t u b=>?_⟩
   have f:t<(n-1)*3:=by
    have:=(wU.1 b).1
    rwa [l]at this
   rw[m,List.getElem?_take,xH f,List.getElem?_drop,Array.getElem?_toList]at b;rw[Addr.add_lit];exact(Ac (w:=w.drew) q (3+t)).trans b
 have W:Hi (∀u∈news,u.oneCell'=true):=fun u b=>by
  rw[m]at b;refine F u (List.mem_of_mem_drop (i:=3) ?_);rw[List.drop_take,show n*3-3=(n-1)*3 by omega];exact b
 have X:Hi (∀t,t<news.length->(w.drew.cell? ⟨g,0+0*3+t,none⟩).isSome=true/\w.drew.frozen? ⟨g,0+0*3+t,none⟩=false):=fun t f=>by
  rw[l]at f;refine⟨?_,Ak (w:=w.drew) q _⟩;rw[Ac (w:=w.drew) q,Array.getElem?_eq_getElem (by omega)];rfl
 obtain⟨a,x⟩:∃a,a=w.drew.setCells g (0+0*3) news:=⟨_,rfl⟩;obtain⟨c1,k,G,E⟩:=AFa news (0+0*3) w.drew d q (by omega);rw[<-x]at k;have y:∀j,j<3->(a.cell? ⟨g,(n-1)*3+j,none⟩).isSome=true/\a.frozen? ⟨g,(n-1)*3+j,none⟩=false:=fun j r=>by
  refine⟨?_,Ak k _⟩;rw[Ac k,Array.getElem?_eq_getElem (by omega)];rfl
 have aa:∀H c,(Builtin.clear_ #[22] H #[.slice (some ⟨g,(n-1)*3,none⟩) (n-(n-1)) c]).run prog a=.ok (.tuple #[]) (a.setCells g ((n-1)*3) [.string ⟨#[]⟩,.string ⟨#[]⟩,.slice none 0 0]):=fun H c=>by
  rw[show n-(n-1)=1 by omega];have h:=run_storeCells_cells (P:=prog) g ((n-1)*3) [.string ⟨#[]⟩,.string ⟨#[]⟩,.slice none 0 0] 0 a (fun j r=>(y j r).1) (fun j r=>(y j r).2) (AEW rfl rfl rfl);simp only[Nat.add_zero]at h;have T:(Builtin.zeroCells (Value.agg #[.string ⟨#[]⟩,.string ⟨#[]⟩,.slice none 0 0]).cells 1).toList=[.string ⟨#[]⟩,.string ⟨#[]⟩,.slice none 0 0]:=by kernel_rfl
  simp[Builtin.clear_,run_underlying underlying22,zeroValue38,T,h]
 have C:Hi (a=w.drew.setCells g (0+0*3) news):=x;have I:=Aa k;have B:=Aa G;have J:=Aa E;have s:=Aa l;have K:=Aa m;have A:=Aa z;have ad:(1:Int)<=(n:Int):=by omega
 clear x k G E y D m l z F;go_enter func51,ntmps51;go_wp2;go_region_law (refine step_append_room rfl (.tmp 22) (.tmp 25) 22 rfl 38 U 3 underlying22 R Y g 0 0 cap (by simp[Act.eval,Act.put]) p (n-1) (cap-1) news (by simp[Act.eval,Act.put]) s.o S.o W.o (by omega) X.o ?_;rw[<-C.o]);all_goals(try go_wp2_with fail)
 go_ret;obtain⟨c2,L,M,N⟩:=AFa [.string ⟨#[]⟩,.string ⟨#[]⟩,.slice none 0 0] ((n-1)*3) a c1 I.o (by rw[B.o,A.o];show(n-1)*3+3<=_;omega);refine⟨by simp,c2,L,by rw[M,B.o,A.o],?_,?_⟩
 ·rw[<-K.o]
  refine List.ext_getElem? (fun t=>?_);rw[List.getElem?_take];by_cases f:t<(n-1)*3
  ·rw[xH f,Array.getElem?_toList,N t,xG (by omega),J.o t,xH (by have:=s.o;omega)]
   simp
  ·rw[xG f,List.getElem?_eq_none (by have:=s.o;omega)]
 ·have V:Ag g w a:=by rw[C.o];exact(show Ag g w w.drew from⟨rfl,rfl,rfl,wQ _,fun _ _ _=>rfl⟩).trans (AFb g news _ w.drew)
  exact V.trans (AFb g _ _ a)
theorem AGY{w:World}{ys:List AY}{v:Nat}(B:1<=ys.length)(m:Calls prog 50 #[.pointer (some ⟨v,0,none⟩)] w fun e w'=>∃(f:Value) (xs:List AFJ),e=.returned f/\w'.ownsRow w.heap.size 38 3 f xs.length (xs.flatMap ACG)/\(∀x∈xs,w'.ownsRow w.heap.size 41 2 x.2 x.1.2.2.length (x.1.2.2.flatMap flC))/\xs.map (·.1)=ys/\yG w w'):
 Calls prog 50 #[.pointer (some ⟨v,0,none⟩)] w fun e w'=>∃(g cap:Nat) (b:Array Value) (xs:List AFJ),e=.returned (.slice (some ⟨g,0,none⟩) ys.length cap)/\w.heap.size<=g/\w'.heap[g]?=some (.cells b 38 (0,0))/\b.size=cap*3/\ys.length<=cap/\cap<=maxLen/\b.toList.take (ys.length*3)=xs.flatMap ACG/\(∀u∈xs.flatMap ACG,u.oneCell'=true)/\(∀x∈xs,w'.ownsRow w.heap.size 41 2 x.2 x.1.2.2.length (x.1.2.2.flatMap flC))/\xs.map (·.1)=ys/\yG w w':=by
 refine m.mono ?_;rintro _ w' ⟨f,xs,rfl,t,j,l,hb⟩;have s:xs.length=ys.length:=by rw[<-l,xT]
 rcases t.2 with⟨_,A⟩|⟨g,cap,b,k,q,r,h,n,p,i⟩
 ·omega
 ·rw[s]at k h i
  refine⟨g,cap,b,xs,by rw[k],q,r,p,h,n,i,fun u y=>?_,j,l,hb⟩;obtain⟨x,z,d⟩:=List.mem_flatMap.1 y;obtain⟨a,c,e⟩:=An (j x z);unfold ACG at d;rw[e]at d;simp only[yE,List.not_mem_nil,or_false]at d;rcases d with rfl|rfl|rfl<;>rfl
theorem AFq{w2 w3:World}{B g cap:Nat}{b c:Array Value}{xs:List AFJ}{r:AY}{ys:List AY}(t:w2.heap[g]?=some (.cells b 38 (0,0)))(A:b.toList.take ((r::ys).length*3)=xs.flatMap ACG)(h:xs.map (·.1)=r::ys)(s:w3.heap[g]?=some (.cells c 38 (0,0)))(i:c.size=cap*3)(v:(r::ys).length<=cap)(w:cap<=maxLen)(f:c.toList.take (((r::ys).length-1)*3)=(b.toList.drop 3).take (((r::ys).length-1)*3))(y:∀x∈xs,w2.ownsRow B 41 2 x.2 x.1.2.2.length (x.1.2.2.flatMap flC))(E:Ag g w2 w3):Fv w3 (.slice (some ⟨g,0,none⟩) ys.length cap) ys:=by
 cases xs with
 |nil=>simp at h
 |cons F a=>
  rw[List.map_cons]at h;have p:=(List.cons.inj h).2;have n:a.length=ys.length:=by rw[<-p,xT]
  have e:((r::ys).length-1)*3=ys.length*3:=by rw[xU,Nat.add_sub_cancel]
  rw[e]at f;have q:(b.toList.drop 3).take (ys.length*3)=a.flatMap ACG:=by
   have:=congrArg (List.drop 3) A;rw[List.drop_take,xU,show(ys.length+1)*3-3=ys.length*3 by omega]at this;rw[this];rfl
  rw[q]at f;have u:(a.flatMap ACG).length=a.length*3:=by
   have:∀l:List AFJ,(l.flatMap ACG).length=l.length*3:=fun l=>by induction l with
    |nil=>rfl
    |cons d l D=>rw[List.flatMap_cons,xJ,D];simp[ACG];omega
   exact this a
  have C:w3.ownsRow 0 38 3 (.slice (some ⟨g,0,none⟩) ys.length cap) a.length (a.flatMap ACG):=by
   rw[n];exact⟨by rw[u,n],.inr ⟨g,cap,c,rfl,wZ _,s,by rw[xU]at v;omega,w,i,f⟩⟩
  have:=AFZ C (fun z i=>?_)
  ·rw[p]at this;exact this
  ·have j:=y z (yA _ i)
   exact(ACR.of_own (B:=fun _=>True) (So j (fun k m=>E.block k (Ln j k m) (fun e=>AFX j t (by decide) (by rw[<-e];exact m)))) (fun _ _=>trivial)).at
theorem AGM{w:World}{T:Nat}{c:Be}{r:AY}{ys:List AY}(F:GN w T c (r::ys))(hs:Ij c (r::ys)=true)(d:QI (r::ys)):
 Calls prog 33 #[.pointer (some ⟨T,0,none⟩),.string r.2.1] w fun e w'=>∃i,e=.returned (.tuple #[.pointer (some ⟨i,0,none⟩),.int .i64 0])/\yG w w'/\GN w' i c ys:=by
 obtain⟨S,aA,vL,D,n,I,J,U⟩:=F.read;have X:∀y∈r::ys,y.2.2.length<=1000000:=fun y f=>by have:=(d.c y f).2.1;omega
 have b:=(ACQ c (r::ys)).1 hs;have ay:=Aa (fun(q:World) (A:yG w q)=>by
  obtain⟨a,cap,u,v,aJ,aK,aL⟩:=(F.below A).told (fun y f=>(b.2.1 y f).1) X;exact AGY (by rw[xU];omega) (AFj (r::ys) a cap u v aJ aK aL))
 have hid:r.2.1.size<=maxLen:=by have:=(d.c r (by simp)).1;unfold maxLen;omega
 obtain⟨c0,ab,B⟩:=nE I.drew r.2.1 hid;obtain⟨c1,ad,C⟩:=nE I r.2.1 hid;have H:r.2.1∈(r::ys).map (fun y=>y.2.1):=by simp
 rw[J.hasP,(FD _ _).2 H]at ab ad;obtain⟨j,Y,aj⟩:=J.val r.2.1 H;have aH:j=0:=by
  have Q:=Ma _ _ j b.2.2.1 Y;have aP:=Ma _ r.2.1 0 b.2.2.1 (by simp);omega
 subst aH;rw[aj]at B C;have aD:c0=0:=by simpa using B.symm
 have Q:c1=0:=by simpa using C.symm
 subst aD Q;have aM:=Aa n;have af:Ij c ys=true:=AEr hs (by have:=b.1;rw[xU]at this;omega) (by have:=b.2.2.1;rw[List.map_cons,List.nodup_cons]at this;exact this.2) (fun z aI=>⟨z,yA _ aI,rfl,rfl,List.Sublist.refl _⟩);have ae:QI ys:=⟨by have:=d.l;rw[xU]at this;omega,fun y f=>d.c y (yA _ f)⟩;have av:=Aa (fun q A a aC aE=>U q A a aC ys aE ae af);have aB:=Ac n;have am:=Ab n;have aQ:ys.length<=199:=by have:=b.1;rw[xU]at this;omega
 clear n U d af F X hs b B C aj Y H I J ae;go_enter func33,ntmps33;have h:=Aa (fun V (x:yG w V)=>xZ x (xZ (fun k=>(x.cell (p:=⟨T,k,none⟩) am).trans (aB k)) (xA am x.size)));go_wp2_with fail;clear ab ad;go_region_held3 (fun V=>yG w V/\(∀k,V.cell? ⟨T,k,none⟩=(#[vL,.pointer (some ⟨S,0,none⟩),.map (some aA)]:Array Value)[k]?)/\T<V.heap.size)
  (first|exact h.o _ (wR _ _).drew|exact h.o _ (bT m M)|exact h.o _ O|exact h.o _ (bT t N))
  (first|(go_at_call 50;obtain⟨m, -⟩:= ‹yG w _/\_›;refine(ay.o _ m).mono ?_;rintro _ w2 ⟨g,cap,aN,xs,rfl,aF,E,ah,G,Z,K,aa,ag,ak,M⟩;have aG:w.heap.size<=g:=wV m.size aF;have aq:=Aa (AFn E ah (by rw[xU];omega) G Z (by rw[K];exact aa));have ax:=Aa K;have aw:=Aa ag;have az:=Aa ak;have ap:=Aa E;have au:=Aa G;clear E ah G aa ag ak K)|(go_at_call 51;obtain⟨s, -⟩:= ‹yG w _/\_›;refine aq.o.mono ?_;rintro _ w3 ⟨rfl,aO,W,al,ai,L⟩;have O:=s.trans (L.below aG s.size))|(go_at_call 35;obtain⟨t, -⟩:= ‹yG w _/\_›;refine(av.o _ t (some ⟨g,0,none⟩) cap (AFq ap.o ax.o az.o W al au.o Z ai aw.o L)).mono ?_;rintro _ w4 ⟨i,rfl,N,R⟩;have ar:=Aa R;clear R))
 all_goals(
  obtain⟨P, -⟩:= ‹yG w _/\_›;have ao:=Aa P;clear P N M s O t m L W al ai
  (try go_wp2_with fail)
  go_ret2;exact⟨i,rfl,ao.o,ar.o⟩)
end Go.Proofs.YtogdodlibkckkaaGreatDoor
