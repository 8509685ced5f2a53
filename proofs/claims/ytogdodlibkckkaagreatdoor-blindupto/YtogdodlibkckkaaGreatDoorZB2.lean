import Derived.Test.YtogdodlibkckkaaGreatDoorZB1
namespace Go.Proofs.YtogdodlibkckkaaGreatDoor
set_option maxHeartbeats 20000000
set_option maxRecDepth 100000
open Go.RowKit Tryz
theorem info38:(prog.info? 38).map (fun i=>(i.zero,i.size,i.bytes))=some (some (.agg #[.string ⟨#[]⟩,.string ⟨#[]⟩,.slice none 0 0]),3,56):=by kernel_rfl
theorem info41:(prog.info? 41).map (fun i=>(i.zero,i.size,i.bytes))=some (some (.agg #[.string ⟨#[]⟩,.string ⟨#[]⟩]),2,32):=by kernel_rfl
theorem AEW{a b c:Value}(e:a.oneCell'=true)(f:b.oneCell'=true)(g:c.oneCell'=true):∀u∈[a,b,c],u.oneCell'=true:=by
 intro u d;simp at d;rcases d with rfl|rfl|rfl<;>assumption
theorem AEY{w:World}{base n size N:Nat}{e:TypeId}{v:Value}{xs:List Value}(a:w.ownsRow base e size v n xs)(j:N<base)(i:Nat)(u:Value):(w.setCell ⟨N,i,none⟩ u).ownsRow base e size v n xs:=by
 refine⟨a.1,?_⟩;rcases a.2 with h|⟨g,cap,b,f,c,d,r⟩
 ·exact Or.inl h
 ·refine Or.inr ⟨g,cap,b,f,c,?_,r⟩
  rw[xC _ _ _ _ (show g≠N from by omega)];exact d
theorem ABi.far{w w':World}{B0:Nat}{e:Value}{xs:List AFJ}(a:ABi w B0 e xs)(d:∀k,B0<=k->k<w.heap.size->w'.heap[k]?=w.heap[k]?)(_:w.heap.size<=w'.heap.size):ABi w' B0 e xs:=
 ⟨So a.own (fun k b=>d k (Mr a.own k b) (Ln a.own k b)),fun x c=>So (a.sub x c) (fun k b=>d k (Mr (a.sub x c) k b) (Ln (a.sub x c) k b)),a.dis⟩
theorem ADI:∀(xs:List AFJ) (a:Nat) (c:AFJ) (j:Nat),xs[a]?=some c->j<3->(xs.flatMap ACG)[a*3+j]?=(ACG c)[j]?
 |[],a,t,j,b,_=>by simp at b
 |x::e,0,t,j,b,d=>by
  simp at b;subst b;rw[List.flatMap_cons,xN (by show _<3;omega)];simp
 |x::e,a+1,t,j,b,d=>by
  rw[List.flatMap_cons,xO (by show 3<=_;omega)];rw[show(a+1)*3+j-(ACG x).length=a*3+j by show(a+1)*3+j-3=_;omega];exact ADI e a t j (by simpa using b) d
theorem ABi.rows{w:World}{B0:Nat}{e:Value}{xs:List AFJ}(c:ABi w B0 e xs):Fv w e (xs.map (·.1)):=by
 rcases c.own.2 with⟨d,f⟩|⟨g,cap,l,d,m,n,k⟩
 ·have:xs=[]:=xE f
  subst this;exact⟨none,0,d,wQ _,Or.inl rfl⟩
 ·subst d
  refine⟨some ⟨g,0,none⟩,cap,by rw[xT],by rw[xT];exact k.1,Or.inr ⟨g,0,rfl,fun j r a=>?_⟩⟩;rw[xI]at a;cases b:xs[j]? with
  |none=>rw[b]at a;cases a
  |some x=>
   rw[b]at a;cases a;have p:j<xs.length:=(wU.1 b).1;have q:∀i,i<3->w.cell? ⟨g,0+j*3+i,none⟩=(ACG x)[i]?:=fun i h=>by
    rw[Nat.zero_add,c.own.cellAt _ (by omega)];exact ADI xs j x i b h
   exact⟨q 0 (by omega),q 1 (by omega),x.2,q 2 (by omega),(ACR.of_own (B:=fun _=>True) (c.sub x (wT b)) (fun _ _=>trivial)).at⟩
theorem ABi.low{w:World}{B C:Nat}{v:Value}{xs:List AFJ}(a:ABi w B v xs)(b:C<=B):ABi w C v xs:=⟨FE a.own b,fun x c=>FE (a.sub x c) b,a.dis⟩
theorem AEu{w:World}{v:Nat}{id:yF}{roles:List yF}(b:DV w v id roles){g o:Nat}{f:Am}{u:Value}(c:Cn w g o f u):Calls prog 39 #[.pointer (some ⟨v,0,none⟩),.pointer (some ⟨g,o,none⟩)] w fun e w'=>e=.returned (.bool (DW roles f.auth&&DW roles f.hide_))/\w'=w:=by
 have d:=wB b c;have h:=Zk b c;generalize DW roles f.auth=i at*;generalize DW roles f.hide_=j at*;clear b c;cases i
 ·go_enter func39,ntmps39
  go_wp2_with fail;refine d.mono ?_;rintro _ w' ⟨rfl,a⟩;have a:=a.symm;subst a;go_wp2;go_ret;exact⟨rfl,rfl⟩
 ·go_enter func39,ntmps39
  go_wp2_with fail;refine d.mono ?_;rintro _ w' ⟨rfl,a⟩;have a:=a.symm;subst a;go_wp2_with fail;refine h.mono ?_;rintro _ w' ⟨rfl,a⟩;have a:=a.symm;subst a;go_wp2;go_ret;exact⟨Al (by simp),rfl⟩
theorem AEt{W:World}{v g o U k:Nat}{id nm r:yF}{roles:List yF}(ad:DV W v id roles)(ae:Value)(l:List BU)(V:W.cell? ⟨g,o,none⟩=some (.pointer (some ⟨U,k,none⟩)))(aq:W.cell? ⟨g,o+1,none⟩=some (.string r))(X:W.cell? ⟨U,k,none⟩=some (.string nm))(C:W.cell? ⟨g,o+2,none⟩=some ae)(N:Gn W ae l)(a0:l.length<=1000000):
 Calls prog 38 #[.pointer (some ⟨g,o,none⟩),.func (Fn.func 39) #[.pointer (some ⟨v,0,none⟩)] #[]] W fun e w'=>∃u,e=.returned (.agg #[.string nm,.string r,u])/\w'.ownsRow W.heap.size 41 2 u (ABw roles l).length ((ABw roles l).flatMap flC)/\(ABw roles l).length<=l.length/\yG W w':=by
 have aG:=N;obtain⟨aN,aO,rfl,_⟩:=aG;obtain⟨aJ,ay,aK,aL,aM⟩:=info_parts info41;have ax:=wW W _ V;have av:=wW W _ X;have ai:=Aa N;have aj:=Aa ad;clear N ad;go_enter func38,ntmps38;go_wp2;go_cut [5] (fun v5 wc=>v5=.pointer (some ⟨W.heap.size+1,0,none⟩)/\wc.heap[W.heap.size+1]?=some (.cells #[.string nm,.string r,.slice none 0 0] 38 (0,0))/\yG W wc/\wc.heap[W.heap.size]?=some (.cells #[.string ⟨#[]⟩,.string ⟨#[]⟩,.slice none 0 0] 38 (0,0)))
 case first=>
  go_region;all_goals(try go_wp2_with fail)
  all_goals(go_meet)
  obtain⟨al,am⟩:=Ox W (.cells #[.string ⟨#[]⟩,.string ⟨#[]⟩,.slice none 0 0] 38) (.cells #[.string nm,.string r,.slice none 0 0] 38);exact⟨rfl,am,(bA (bA (wR _ _) _) _).drew,al⟩
 case rest=>
  obtain⟨rfl,I,hb,z⟩:=hcut;have Y:=Ab I;have ah:=Aa I;have ag:=Aa hb;have af:=Aa z;have C:=Ah hb C;have ax:g<wc.heap.size:=wW wc _ C;obtain⟨d,rfl⟩:∃d:World,d=wc:=⟨_,rfl⟩;clear I hb z V aq X av;go_wp2;go_loopg [7,27] l.length (fun m v7 v27 wr=>∃(i:Nat) (u:Value) (cs:List IN),v27=.int .i64 i/\i<=l.length/\l.length-i<=m/\wr.heap[W.heap.size+1]?=some (.cells #[.string nm,.string r,u] 38 (0,0))/\wr.ownsRow d.heap.size 41 2 u cs.length (cs.flatMap flC)/\cs.length<=i/\cs=ABw roles (l.take i)/\yG W wr/\d.heap.size<=wr.heap.size/\wr.heap[W.heap.size]?=some (.cells #[.string ⟨#[]⟩,.string ⟨#[]⟩,.slice none 0 0] 38 (0,0)))
  case atStart=>exact⟨0,_,[],rfl,wZ _,wQ _,ah.o,xF _ _ _ _,wQ _,rfl,ag.o,wQ _,af.o⟩
  case round=>
   obtain⟨i,u,cs,rfl,aZ,a3,J,M,ar,D,hb,a4,z⟩:=hrel;obtain⟨E,F,aI⟩:=An M;subst aI;have R:=Aa J;have aB:=Ab J;have y:=Aa M;have P:=Aa D;have A:=Aa hb;have w:=Aa z;clear J M D hb z C;by_cases aC:i<l.length
   ·obtain⟨c,aa⟩:∃c,l[i]?=some c:=⟨_,wS aC⟩
    obtain⟨ap,a6,e,c0,c1,c2,c3,c4,ao,L⟩:=(ai.o.below A.o).at aa;subst e;have au:ap<wr.heap.size:=wW wr _ c0;have T:=Aa (fun ak (Z:yG wr ak)=>AEu (aj.o.below (bT A.o Z)) (L.below Z));have G:=L.c0;have aw:c.g<wr.heap.size:=wW wr _ G;have Q:=Aa (show ABw roles (l.take (i+1))=cs++(if (DW roles c.f.auth&&DW roles c.f.hide_)=true then [(c.f.name,c.t)]else [])from by
     rw[xL,aa,P.o];unfold ABw;rw[List.filter_append,xY];simp only[Option.toList];rw[List.filter_cons];unfold ACD;split<;>simp)
    generalize (DW roles c.f.auth&&DW roles c.f.hide_)=q at*;clear L;go_wp2_with fail;refine(T.o _ (bA (wR _ _) _)).mono ?_;rintro _ _ ⟨rfl,rfl⟩;have h:yG wr (wr.alloc (.cells #[.pointer (some ⟨c.g,c.o,none⟩),.string c.t,.int .i64 c.c.sh,.int .i64 c.c.n,.string c.c.s,.slice c.c.la c.c.ln c.c.lc] 159)):=bA (wR _ _) _;have K:=wX wr (.cells #[.pointer (some ⟨c.g,c.o,none⟩),.string c.t,.int .i64 c.c.sh,.int .i64 c.c.n,.string c.c.s,.slice c.c.la c.c.ln c.c.lc] 159);generalize wr.alloc (.cells #[.pointer (some ⟨c.g,c.o,none⟩),.string c.t,.int .i64 c.c.sh,.int .i64 c.c.n,.string c.c.s,.slice c.c.la c.c.ln c.c.lc] 159)=a at*;have x:=Aa ((h.block _ aB).trans R.o);have ab:=Ab x.o;have O:=Aa ((h.block _ (Ab w.o)).trans w.o);have S:=Aa (AT y.o h);have b:=Aa (bT A.o h);have a5:=h.size;have aR:=Ac K;have a2:=Ab K;have G:=Ah h G;have aw:c.g<a.heap.size:=by omega
    clear c0 c1 c2 c3 c4 ao au h K T;cases q
    ·go_wp2
     go_roundg (l.length-(i+1))
     case measure=>omega
     case rel=>exact⟨i+1,_,cs,by go_num,by omega,wQ _,x.o,S.o,by omega,by rw[Q.o];simp,b.o,by omega,O.o⟩
    ·have aD:Option.some (W.heap.size+1)≠(Value.slice E cs.length F).ownBlock:=fun e=>pP y.o Y e.symm
     have aE:Option.some W.heap.size≠(Value.slice E cs.length F).ownBlock:=fun e=>pP y.o (show W.heap.size<d.heap.size by omega) e.symm;have aX:cs.length<=1000000:=by omega
     have aQ:=Ac x.o;have aV:=Ak x.o;go_wp2;go_region_law (first|(refine step_append_lies _ (by rfl) _ _ _ (by rfl) d.heap.size 41 aJ _ 2 32 underlying36 ay aK aL aM rfl (by decide) _ _ _ (by rfl) (AT S.o (by repeat' with_reducible first|exact wR _ _|refine bA ?_ _|refine Below.drew ?_)) ⟨a.heap.size,0,none⟩ 1 1 [.string c.f.name,.string c.t] (by rfl) (by rfl) (Cz _ _ _ _ (by simp)) (Sm rfl rfl) (by decide) (by unfold maxLen;omega) (by omega) (by simp;omega) (a.heap.size+1) (by simp) ?_;intro g cap w5 aF p aW aY;have H:=(p.block (W.heap.size+1) (by simp;omega) aD).trans ((by first|exact(bA (wR a.heap.size a) _).block _ ab|exact(bA (wR a.heap.size a) _).drew.block _ ab:_=a.heap[W.heap.size+1]?).trans x.o);have aS:=Ac H;have aU:=Ak H));all_goals(try go_wp2_with fail)
     all_goals(
      have aH:=p.size;simp at aH;go_roundg (l.length-(i+1))
      case measure=>omega
      case rel=>
       refine⟨i+1,_,cs++[(c.f.name,c.t)],by go_num,by omega,wQ _,AI H 2 _,?_,by simp;omega,by rw[Q.o];simp,?_,by simp[World.setCell];omega,?_⟩
       ·rw[xJ,List.flatMap_append]
        exact AEY aF Y 2 _
       ·exact⟨p.os.trans b.o.os,p.tape.trans b.o.tape,p.output.trans b.o.output,by have:=b.o.size;simp[World.setCell];omega,fun j aA=>(xC _ _ _ _ (show j≠W.heap.size+1 by omega)).trans ((p.block j (by have:=b.o.size;simp;omega) (fun e=>pP y.o (show j<d.heap.size by omega) e.symm)).trans ((by first|exact(bA (wR a.heap.size a) _).block _ (by have:=b.o.size;omega)|exact(bA (wR a.heap.size a) _).drew.block _ (by have:=b.o.size;omega):_=a.heap[j]?).trans (b.o.block j aA)))⟩
       ·exact(xC _ _ _ _ (show W.heap.size≠W.heap.size+1 by omega)).trans ((p.block W.heap.size (by simp;omega) aE).trans ((by first|exact(bA (wR a.heap.size a) _).block _ (by omega)|exact(bA (wR a.heap.size a) _).drew.block _ (by omega):_=a.heap[W.heap.size]?).trans O.o)))
   ·have az:i=l.length:=by omega
    subst az;have aP:=Ac R.o;have c4:=Ac w.o;have aT:=Ak w.o;have a1:=Ab w.o;go_wp2_with fail;have D:cs=ABw roles l:=by rw[P.o,List.take_length]
    subst D;refine bodyPost_ret (v:=.agg #[.string nm,.string r,.slice E (ABw roles l).length F]) (by simp[results,results38,go_sem, *]) rfl ⟨_,rfl,?_,ar,?_⟩
    ·refine FE (B:=d.heap.size) ?_ (by omega)
     repeat' with_reducible first|exact y.o|refine IE ?_ (show _<d.heap.size by omega) _ _
    ·repeat' with_reducible first|exact A.o|refine bS ?_ _ (wQ _) _
theorem AEa{W:World}{v T:Nat}{id:yF}{roles:List yF}(ao:DV W v id roles)(b:List (Option AY))(a:Option Addr)(cap:Nat)(x y:Value)(D:W.heap[T]?=some (.cells #[.slice a b.length cap,x,y] 67 (0,0)))(aP:b.length<=1000)(d:b=[]\/∃J,a=some ⟨J,0,none⟩/\∀j z,b[j]?=some z->ACS W J j id roles z):
 Calls prog 22 #[.pointer (some ⟨v,0,none⟩),.pointer (some ⟨T,0,none⟩)] W fun e w'=>∃R xs,e=.returned R/\ABi w' W.heap.size R xs/\xs.map (·.1)=b.filterMap (fun z=>z)/\yG W w':=by
 obtain⟨iY,aA,aF,aG,aH⟩:=info_parts info38;have I:=Ac D;have al:=Ab D;have aa:=Aa ao;have ax:=Aa d;have aw:=Aa D;clear ao d D;go_enter func22,ntmps22;go_wp2_with fail;clear I;go_loopg [5,6,7,13] b.length (fun m v5 v6 v7 v13 wr=>∃(i:Nat) (xs:List AFJ),v13=.int .i64 i/\i<=b.length/\b.length-i<=m/\xs.length<=i/\ABi wr W.heap.size v5 xs/\yG W wr/\xs.map (·.1)=(b.take i).filterMap (fun z=>z))
 case atStart=>exact⟨0,[],rfl,wZ _,wQ _,wQ _,ABi.nil _ _,wR _ _,rfl⟩
 case round=>
  obtain⟨i,xs,rfl,aO,aS,aV,M,hb,aq⟩:=hrel;obtain⟨ad,ae,aC⟩:=An M.own;subst aC;have V:=Aa M;have h:=Aa hb;have F:=Aa aq;have I:=Ac ((hb.block _ al).trans aw.o);have aQ:T<wr.heap.size:=xA al hb.size;clear M hb aq;by_cases O:i<b.length
  ·obtain⟨z,d⟩:∃z,b[i]?=some z:=⟨_,wS O⟩
   obtain⟨J,e,aj⟩:=ax.o.resolve_left (fun e=>by rw[e]at O;simp at O);subst e;obtain⟨aL,k,B,nm,Q,ar,u,l,rl,t,K,A,c,C,af,L,ag,ah,ai⟩:=((aj i z d).below h.o).ex;have Y:=Aa (show(b.take (i+1)).filterMap (fun z=>z)=(b.take i).filterMap (fun z=>z)++z.toList from by
    rw[xL,d,List.filterMap_append];cases z<;>simp)
   have U:=Aa (pX (aa.o.below h.o) ar u l rl t K af c L ag ah);have Z:=Aa (fun ay (f:yG wr ay)=>AEt (aa.o.below (bT h.o f)) ar l (Ah f K) (Ah f A) (Ah f C) (Ah f c) (L.below f) ag);have ab:=Aa ai;generalize RH roles id l rl t=q at*;generalize ABw roles l=cs at*;clear K A c C af L ah ai d aj;go_wp2_with fail;refine U.o.mono ?_;rintro _ w1 ⟨rfl,s⟩;have E:=Aa (bT h.o s);have r:=Aa (V.o.far (fun k _ c=>s.block k c) s.size);cases q
   ·go_wp2_with fail
    refine(Z.o _ s).mono ?_;rintro _ w2 ⟨R,rfl,P,aM,w⟩;obtain⟨G,H,aD⟩:=An P;subst aD;have au:=Aa P;have n:=Aa (bT E.o w);have X:=Aa (r.o.far (fun k _ c=>w.block k c) w.size);have aU:=n.o.size;have aT:=w.size;have aR:∀j,(Value.slice ad xs.length ae).ownBlock=some j->j<w1.heap.size:=fun j N=>Ln r.o.own j N;clear P s w U Z I;go_wp2_with (at_builtin;refine wpList_append_lies _ rfl _ _ 22 rfl W.heap.size 38 iY _ 3 56 underlying22 aA aF aG aH rfl (by decide) _ _ _ rfl (X.o.own.alloc _) ⟨w2.heap.size,0,none⟩ 1 1 [.string nm,.string Q,.slice G cs.length H] rfl rfl (Cz _ _ _ _ (by simp)) (AEW rfl rfl rfl) (by decide) (by unfold maxLen;omega) (by omega) (by simp;omega) (w2.heap.size+1) (by simp) ?_;intro aK aJ aE am ak ap aN;have av:=Aa am;have p:=Aa ak;have aI:=Aa ap;clear am ak ap);have az:=p.o.size;simp at az;have S:=Aa (show∀j,j<w2.heap.size->(Value.slice ad xs.length ae).ownBlock≠some j->aE.heap[j]?=w2.heap[j]? from fun j A c=>(p.o.block j (by simp;omega) (fun e=>c e.symm)).trans (AJ _ _ _ A));go_roundg (b.length-(i+1))
    case measure=>omega
    case rel=>
     refine⟨i+1,xs++[((nm,Q,cs),.slice G cs.length H)],by go_num,by omega,wQ _,by simp;omega,?_,?_,?_⟩
     ·exact X.o.push (x:=((nm,Q,cs),.slice G cs.length H)) au.o (by have:=E.o.size;omega) (fun z d g e=>Ln (r.o.sub z d) g e) av.o (fun j _ c C=>S.o j c C)
     ·exact⟨p.o.os.trans n.o.os,p.o.tape.trans n.o.tape,p.o.output.trans n.o.output,by omega,fun j N=>(S.o j (by omega) (pP r.o.own (by omega))).trans (n.o.block j N)⟩
     ·rw[Y.o,ab.o,xY,F.o];rfl
   ·go_wp2
    go_roundg (b.length-(i+1))
    case measure=>omega
    case rel=>exact⟨i+1,xs,by go_num,by omega,wQ _,by omega,r.o,E.o,by rw[Y.o,ab.o,F.o];simp⟩
  ·have aB:i=b.length:=by omega
   subst aB;go_wp2;go_ret;exact⟨_,xs,rfl,V.o,by rw[F.o,List.take_length],h.o⟩
theorem ADd(roles:List yF)(a:List Am):∀(cs:List BU),(∀c∈cs,a[(Af (a.map Am.name) c.f.name).toNat]?=some c.f)->ABw roles cs=(cs.map (fun c=>(c.f.name,c.t))).filter (fun c=>ABy roles a c.1)
 |[],_=>rfl
 |c::cs,d=>by
  have b:=ADd roles a cs (fun x h=>d x (yA _ h));have g:ABy roles a c.f.name=ACD roles c.f:=by
   have e:=d c yB;have:=Mc (a.map Am.name) c.f.name (List.mem_map_of_mem (wT e));unfold ABy EQ;rw[xG (by omega),e]
  unfold ABw at b⊢;rw[List.filter_cons,List.map_cons,List.filter_cons,g];split
  ·rw[List.map_cons,b]
  ·exact b
theorem ADm{w:World}{cs:List BU}{l:List IN}(e:cs.map (fun c=>(c.f.name,c.t))=l)(q:∀c∈cs,Ba w (fun g=>g<w.heap.size) 1603 c.c (pv (CZ c.t)))(k:Nat)(id:yF):eqP cs id=UQ (k,l.map (fun c=>(c.1,pv (CZ c.2)))) id:=by
 funext n y;have m:cs.map CC=(l.map (fun c=>(c.1,pv (CZ c.2)))).map Prod.fst:=by rw[<-e,List.map_map,List.map_map];rfl
 have:Ba w (fun g=>g<w.heap.size) 1603 (EN cs n) (EM (k,l.map (fun c=>(c.1,pv (CZ c.2)))) n):=by
  unfold EN EM;dsimp only;rw[m];split
  ·exact⟨rfl,rfl,rfl,rfl,[],rfl,.inl rfl,fun i f x d=>by simp at d⟩
  ·rename_i p
   obtain⟨j,x,h,a,_,_⟩:=Cu Prod.fst (l.map (fun c=>(c.1,pv (CZ c.2)))) n p;rw[h,xS,a];rw[<-e,List.map_map,xI]at a;obtain⟨c,b,rfl⟩:=yC.1 a;rw[b];exact q c (wT b)
 exact this.eq3 _
theorem GN.rows{w:World}{T:Nat}{c:Be}{ys:List AY}(O:GN w T c ys)(hs:Ij c ys=true)(V:∀y∈ys,y.2.2.length<=1000000)(id:yF)(roles:List yF):
 ∃a cap u v,w.heap[T]?=some (.cells #[.slice a ys.length cap,u,v] 67 (0,0))/\(ys.map (ABl c.objs id roles)=[]\/∃g,a=some ⟨g,0,none⟩/\∀j z,(ys.map (ABl c.objs id roles))[j]?=some z->ACS w g j id roles z):=by
 obtain⟨S,N,au,ar,ap,av,aq,ab,H,aa,ad,F,am,n,al,ao,⟨kO,W⟩,Q⟩:=O.ex;obtain⟨ae,B,vL,p,h,m,P⟩:=Q.ex;have X:=((ACQ c ys).1 hs).2.1;obtain⟨a,cap,rfl⟩:=An h.r;refine⟨a,cap,_,_,by rw[<-m];exact h.b,?_⟩;cases D:p with
 |nil=>left;rw[D]at m;rw[xE m.symm];rfl
 |cons q0 qr=>
  obtain⟨g,af,J, -⟩:=h.at (show p[0]?=some q0 by rw[D];rfl);have s:=(Value.slice.inj J).1;refine .inr ⟨g,s,fun j z G=>?_⟩;rw[xI]at G;obtain⟨y,l,rfl⟩:=yC.1 G;obtain⟨r,E⟩:∃r,p[j]?=some r:=⟨_,wS (by have:=(wU.1 l).1;omega)⟩;have d:=P j r y E l;obtain⟨aj,ag,K,c0,c1,c2⟩:=h.at E;have M:=(Addr.mk.inj (xD (s.symm.trans (Value.slice.inj K).1))).1;subst M;obtain⟨ak,Y,Z⟩:=ADT (X y (wT l)).1;have A:r.k=(FO c.objs y).1:=d.k;obtain⟨x,i⟩:∃x,H[r.k]?=some x:=⟨_,wS (by rw[A,<-xT (f:=Prod.fst),n];exact Z)⟩;have C:ABk c.objs y=x.1:=by unfold ABk;rw[<-A,<-n,List.getD_eq_getElem?_getD,xI,i];rfl
  obtain⟨ai,ah,q,t⟩:=F.o.cell (fun _=>rfl) r.k x i;rw[W]at q;have L:=(Addr.mk.inj (xD (Value.slice.inj q).1)).1;subst L;refine⟨N,r.k*4,S,x.1.name,r.id,r.v,x.2.2.2,r.cs,x.1.rule,x.1.tree,c0,c1,c2,by simpa using t 0 _ rfl,t 3 _ rfl,d.c,?_,(F.o.ok x (wT i)).2.2.2.2,?_⟩
  ·have:=V y (wT l)
   rw[<-d.a.e,xT]at this;exact this
  ·unfold ABl Nx RH
   rw[C,ADm d.a.e (fun c R=>(d.v c R).1) (FO c.objs y).1 id,ADd roles x.1.fields r.cs (fun I U=>d.a.f I U x.1 (by rw[<-n,xI,i];rfl)),d.a.e,<-Y,C,d.id];rfl
def ABc(x:yF)(ys:List AY)(role vid:yF):List AY×Nat:=if Eo x ys=0 then(if Ef (Ao (Ad x)).1.roles role=[]then([],4)else(ABh (Ao (Ad x)).1 (Ef (Ao (Ad x)).1.roles role) vid ys,0))else([],Eo x ys)
theorem AEd(x:yF)(w:World)(hs:x.size<=maxLen)(a:Option Addr)(b:Nat)(ys:List AY)(role vid:yF)(f:Fv w (.slice a ys.length b) ys)(m:ys.length<=1000000)(g:∀y∈ys,y.2.1.size<=2000000/\y.2.2.length<=900000/\∀c∈y.2.2,c.2.size<=2000000)(l:¬Eo x ys=0):
 Calls prog 8 #[.string x,.slice a ys.length b,.agg #[.string role,.string vid]] w fun e w'=>e=.returned (.tuple #[.slice none 0 0,.int .i64 (Eo x ys)])/\yG w w':=by
 have h:=Aa (fun d (j:yG w d)=>qU x d hs a b ys (f.below j) m g);generalize Eo x ys=k at*;have n:¬(k:Int)=0:=by omega
 clear l f g;go_enter func8,ntmps8;go_wp2_with fail;refine(h.o _ (bA (wR _ _) _)).mono ?_;rintro _ w1 ⟨q,rfl,i, -⟩;go_wp2;go_ret2;exact⟨rfl,bT (bA (wR _ _) _) i⟩
theorem AEe(x:yF)(w:World)(hs:x.size<=maxLen)(L:Option Addr)(O:Nat)(ys:List AY)(role vid:yF)(ax:role.size<=2000000)(ab:Fv w (.slice L ys.length O) ys)(aA:ys.length<=1000000)(U:∀y∈ys,y.2.1.size<=2000000/\y.2.2.length<=900000/\∀c∈y.2.2,c.2.size<=2000000)(E:Eo x ys=0):
 Calls prog 8 #[.string x,.slice L ys.length O,.agg #[.string role,.string vid]] w fun e w'=>∃G xs,e=.returned (.tuple #[G,.int .i64 (ABc x ys role vid).2])/\ABi w' w.heap.size G xs/\xs.map (·.1)=(ABc x ys role vid).1/\yG w w'/\ABx (Ao (Ad x)).1/\Ov (Ao (Ad x)).1:=by
 have J:=Aa (fun A (R:yG w A)=>qU x A hs L O ys (ab.below R) aA U);obtain⟨ad,h⟩:=Yr E;have ag:=tA (Qe x ad) (Ob _ (MH x));have l:=Aa (show ABc x ys role vid=if Ef (Ao (Ad x)).1.roles role=[]then([],4)else(ABh (Ao (Ad x)).1 (Ef (Ao (Ad x)).1.roles role) vid ys,0)from by unfold ABc;rw[xH E]);rw[E]at J;generalize ABc x ys role vid=SP at*;generalize (Ao (Ad x)).1=c at*;have I:=Aa ag;have ao:=Aa h;have ak:=Aa U;have aJ:ys.length<=200:=by
  unfold Ij Lt at h;simp only[xQ,xK]at h;exact h.1
 clear E ad h ag ab U;go_enter func8,ntmps8;go_wp2_with fail;refine(J.o _ (bA (wR _ _) _)).mono ?_;rintro _ w1 ⟨q,rfl,M,Z⟩;obtain⟨T,rfl,t⟩:=Z trivial;have P:=KW M (wX w (.cells #[.string role,.string vid] 24));have H:=Aa (bT (bA (wR _ _) _) M);have W:=Aa t;have X:=Aa (xZ t.tree t.sz);obtain⟨S,aI,aM,G,aK,aN,aL,ap,aG,aF,aH,ai,F,aC,aB,aD,aw,aa⟩:=t.ex;obtain⟨Y,BB,vL,aj,h, -, -⟩:=aa.ex;obtain⟨a,cap,rfl⟩:=An h.r;have hb:=h.b;have D:ap.map rN=c.roles.map Au.name:=by rw[<-F,List.map_map];rfl
 have j:=Aa (fun A (R:yG w1 A)=>vM (ai.below R) (by rw[D];exact I.o.n) (fun x ay y z=>by rw[D];exact I.o.i x.1 (by rw[<-F];exact List.mem_map_of_mem ay) y z) (fun y z=>I.o.s y (by rw[<-D];exact z)) role vid ax);rw[F]at j;generalize Ef c.roles role=rs at*;have B:=Ac P;have C:=Ac hb;have ae:=Ab P;have af:=Ab hb;clear Z t ai F aC aB aD aw aa D J M P hb h;by_cases u:rs=[]
 ·rw[xH u]at j l
  clear u;go_upto_region 4 with fail;have m:=Aa (fun V (g:yG w1 V)=>xZ g (xZ (fun k=>(g.cell (p:=⟨w.heap.size,k,none⟩) ae).trans (B k)) (fun k=>(g.cell (p:=⟨T,k,none⟩) af).trans (C k))));clear B C;go_region_held3 (fun V=>yG w1 V/\(∀k,V.cell? ⟨w.heap.size,k,none⟩=(#[.string role,.string vid]:Array Value)[k]?)/\(∀k,V.cell? ⟨T,k,none⟩=(#[.slice a aj.length cap,.pointer (some ⟨S,0,none⟩),.map (some Y)]:Array Value)[k]?))
   (first|exact m.o _ (wR _ _).drew|exact m.o _ (bT d N))
   (first|(go_at_call 21;obtain⟨d, -⟩:= ‹yG w1 _/\_›;refine(j.o _ d).mono ?_;rintro _ w2 ⟨q,rfl,N,v⟩;have K:=Aa v;clear v))
  all_goals(obtain⟨d, -⟩:= ‹yG w1 _/\_›;(try go_wp2_with fail);go_ret2;exact⟨_,[],by rw[l.o];rfl,ABi.nil _ _,by rw[l.o];rfl,bT H.o d,X.o⟩)
 ·rw[xG u]at j l
  have al:=Aa u;clear u;go_upto_region 4 with fail;have m:=Aa (fun V (g:yG w1 V)=>xZ g (xZ (fun k=>(g.cell (p:=⟨w.heap.size,k,none⟩) ae).trans (B k)) (fun k=>(g.cell (p:=⟨T,k,none⟩) af).trans (C k))));clear B C;go_region_held3 (fun V=>yG w1 V/\(∀k,V.cell? ⟨w.heap.size,k,none⟩=(#[.string role,.string vid]:Array Value)[k]?)/\(∀k,V.cell? ⟨T,k,none⟩=(#[.slice a aj.length cap,.pointer (some ⟨S,0,none⟩),.map (some Y)]:Array Value)[k]?))
   (first|exact m.o _ (wR _ _).drew|exact m.o _ (bT d N))
   (first|(go_at_call 21;obtain⟨d, -⟩:= ‹yG w1 _/\_›;refine(j.o _ d).mono ?_;rintro _ w2 ⟨q,rfl,N,v⟩;have K:=Aa v;clear v))
  all_goals(
   obtain⟨d, -⟩:= ‹yG w1 _/\_›;obtain⟨V,rfl,g⟩:=K.o al.o;obtain⟨aq,au,aE,v',Q,ah⟩:=(W.o.below d).rows ao.o (fun y z=>by have:=(ak.o y z).2.1;omega) vid rs;rw[<-xT (f:=ABl c.objs vid rs)]at Q;have am:=Aa (AEa g.at (ys.map (ABl c.objs vid rs)) aq au aE v' Q (by rw[xT];omega) ah);clear g Q ah W j K;go_wp2_with fail;refine am.o.mono ?_;rintro _ w3 ⟨G,xs,rfl,av,az,ar⟩;go_wp2;go_ret2;exact⟨_,xs,by rw[l.o];rfl,av.low (bT H.o d).size,by rw[l.o];exact az.trans (by rw[List.filterMap_map];rfl),bT (bT H.o d) ar,X.o⟩)
theorem AEw(x:yF)(w:World)(hs:x.size<=maxLen)(d:Option Addr)(f:Nat)(ys:List AY)(role vid:yF)(l:role.size<=2000000)(h:Fv w (.slice d ys.length f) ys)(j:ys.length<=1000000)(i:∀y∈ys,y.2.1.size<=2000000/\y.2.2.length<=900000/\∀c∈y.2.2,c.2.size<=2000000):
 Calls prog 8 #[.string x,.slice d ys.length f,.agg #[.string role,.string vid]] w fun e w'=>∃a c,e=.returned (.tuple #[.slice a (ABc x ys role vid).1.length c,.int .i64 (ABc x ys role vid).2])/\Fv w' (.slice a (ABc x ys role vid).1.length c) (ABc x ys role vid).1/\yG w w'/\(Eo x ys=0->ABx (Ao (Ad x)).1/\Ov (Ao (Ad x)).1):=by
 by_cases g:Eo x ys=0
 ·refine(AEe x w hs d f ys role vid l h j i g).mono ?_
  rintro _ w' ⟨q,xs,rfl,k,n,hb,m⟩;have b:=k.rows;rw[n]at b;obtain⟨a,c,e,p⟩:=id b;subst e;exact⟨a,c,rfl,b,hb,fun _=>m⟩
 ·refine(AEd x w hs d f ys role vid h j i g).mono ?_
  rintro _ w' ⟨rfl,hb⟩;have e:ABc x ys role vid=([],Eo x ys):=by unfold ABc;rw[xG g]
  rw[e];exact⟨none,0,rfl,⟨none,0,rfl,wQ _,.inl rfl⟩,hb,fun b=>absurd b g⟩
end Go.Proofs.YtogdodlibkckkaaGreatDoor
