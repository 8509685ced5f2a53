import Derived.Test.YtogdodlibkckkaaGreatDoorZB2
import Derived.Test.YtogdodlibkckkaaGreatDoorZ48
import Derived.BigQuiet
namespace Go.Proofs.YtogdodlibkckkaaGreatDoor
set_option maxHeartbeats 20000000
set_option maxRecDepth 100000
open Go.RowKit Tryz
theorem euCl:prog.underlying 41=some (.struct (prog.fieldsOf 41)):=by kernel_rfl
theorem shCl:prog.stoodInHeld 41=false:=by kernel_rfl
theorem egCl:prog.eqGuardType prog.depth 41=false:=by kernel_rfl
theorem fsCl:(prog.fieldsOf 41).toList.map (fun f=>(f.name,f.type,f.offset))=[("Name",9,0),("Text",9,1)]:=by kernel_rfl
theorem ADn(w:World)(a b c d:yF):
 (Op.equalIn 10000 41 (.agg #[.string a,.string b]) (.agg #[.string c,.string d])).run prog w=.ok ((a.toList==c.toList)&&(b.toList==d.toList)) w:=by
 rw[run_equalIn_struct w 9999 41 _ _ euCl shCl];have e:=fsCl;generalize (prog.fieldsOf 41).toList=l at e;rcases l with _|⟨h,_|⟨f1,_|⟨n,l⟩⟩⟩;all_goals first
  |(exfalso;have:=congrArg List.length e;simp at this;done)
  |skip
 ·simp only[List.map_cons,List.map_nil,List.cons.injEq,Prod.mk.injEq,and_true]at e
  obtain⟨⟨i,k,f⟩,⟨j,m,g⟩⟩:=e;rw[Rm w 9998 _ _ h _ a c (by rw[i];decide) k (by rw[f];rfl) (by rw[f];rfl)];rw[Rm w 9998 _ _ f1 _ b d (by rw[j];decide) m (by rw[g];rfl) (by rw[g];rfl)];rw[UP];cases (a.toList==c.toList)<;>cases (b.toList==d.toList)<;>rfl
theorem ADc{α:Type}{l m:List α}{i:Nat}{x y:α}(a:l.take i=m.take i)(b:l[i]?=some x)(c:m[i]?=some y)(e:x=y):l.take (i+1)=m.take (i+1):=by
 rw[xL,xL,a,b,c,e]
theorem ADQ{α:Type}{l m:List α}{i:Nat}{x y:α}(b:l[i]?=some x)(a:m[i]?=some y)(e:x≠y):l≠m:=by
 intro q;subst q;rw[b]at a;exact e (xD a)
theorem AEx(ae af:Value)(l m:List AY)(w:World)(R:Fv w ae l)(hb:Fv w af m)(aQ:l.length<=2000000)(U:∀r∈l,r.2.2.length<=2000000):
 Calls prog 9 #[ae,af] w fun e w'=>e=.returned (.bool (decide (l=m)))/\∃n,w'=w.drewN n:=by
 have ag:=Aa R;have ai:=Aa hb;have ak:=Aa U;obtain⟨aF,aH,rfl,_,_⟩:=R;obtain⟨aB,cB,rfl,_,_⟩:=hb;clear U;have aR:=ADn;have aL:=egCl;generalize X:decide (l=m)=q;have B:=Aa X;clear X;by_cases z:l.length=m.length
 ·have ay:((l.length:Int)!=(m.length:Int))=false:=by simp;omega
  have I:=Aa z;clear z;go_enter func9,ntmps9;go_wp2;go_loopg [5,6] l.length (fun k v5 v6 wr=>∃i n:Nat,v5=.int .i64 i/\i<=l.length/\l.length-i<=k/\wr=w.drewN n/\l.take i=m.take i)
  case atStart=>exact⟨0,0,rfl,wZ _,wQ _,rfl,by simp⟩
  case round=>
   obtain⟨i,n,rfl,aN,aM,rfl,Z⟩:=hrel;have L:=Aa Z;clear Z;by_cases W:i<l.length
   ·have aC:i<m.length:=by have:=I.o;omega
    have f:=wS W;have g:=wS aC;generalize l[i]=r at*;generalize m[i]=s at*;obtain⟨aJ,oA,aG,aI,e,am,ao,ap,S⟩:=ag.o.at f;subst e;obtain⟨gB,oB,aD,cD,e,aq,ar,au,T⟩:=ai.o.at g;subst e;have M:=Aa f;have P:=Aa g;have ah:=Aa S;have aj:=Aa T;have aE:=ak.o r (wT f);clear f g S T;have x:=Aa (fun(e:r≠s)=>show q=false from by rw[<-B.o];exact wY (ADQ M.o P.o e));obtain⟨D,E,b⟩:=r;obtain⟨s1,F,h⟩:=s;simp only at am ao ap aq ar au aE;cases t:(D.toList==s1.toList)
    ·have a:=Aa (x.o (fun e=>by rw[Cy]at t;simp only[decide_eq_false_iff_not]at t;exact t (by cases e;rfl)))
     go_wp2;go_quiet (fail);go_wp2;go_ret;exact⟨Al (by rw[a.o]),_,by first|exact World.drewN_drewN _ _ _|rfl⟩
    ·cases u:(E.toList==F.toList)
     ·have a:=Aa (x.o (fun e=>by rw[Cy]at u;simp only[decide_eq_false_iff_not]at u;exact u (by cases e;rfl)))
      go_wp2;go_quiet (fail);go_wp2;go_ret;exact⟨Al (by rw[a.o]),_,by first|exact World.drewN_drewN _ _ _|rfl⟩
     ·by_cases y:b.length=h.length
      ·have ax:((b.length:Int)!=(h.length:Int))=false:=by simp;omega
       have H:=Aa y;have G:=Aa (show D=s1/\E=F from by rw[Cy]at t u;exact⟨of_decide_eq_true t,of_decide_eq_true u⟩);clear y;go_wp2;go_quiet (fail);go_wp2_with fail;obtain⟨N,az⟩:∃N,(w.drewN n).drewN nq=w.drewN N:=⟨n+nq,World.drewN_drewN _ _ _⟩;rw[az];go_loopg [6] b.length (fun k v6 wr=>∃j C:Nat,v6=.int .i64 j/\j<=b.length/\b.length-j<=k/\wr=w.drewN C/\b.take j=h.take j)
       case atStart=>exact⟨0,N,rfl,wZ _,wQ _,rfl,by simp⟩
       case round=>
        obtain⟨j,C,rfl,aP,aO,rfl,Y⟩:=hrel;have K:=Aa Y;clear Y;by_cases V:j<b.length
        ·have aA:j<h.length:=by have:=H.o;omega
         have f:=wS V;have g:=wS aA;generalize b[j]=c at*;generalize h[j]=d at*;obtain⟨aK,aS,e,c0,c1⟩:=ah.o.at f;subst e;obtain⟨gD,oD,e,av,aw⟩:=aj.o.at g;subst e;have O:=Aa f;have Q:=Aa g;clear f g;have J:=Aa (fun(e:c≠d)=>x.o (fun q=>by cases q;exact ADQ O.o Q.o e rfl));obtain⟨aa,p2⟩:=c;obtain⟨ab,ad⟩:=d;simp only at c0 c1 av aw;cases v:(aa.toList==ab.toList)
         ·have a:=Aa (J.o (fun e=>by rw[Cy]at v;simp only[decide_eq_false_iff_not]at v;exact v (by cases e;rfl)))
          go_wp2;go_quiet (fail);go_wp2;go_ret;exact⟨Al (by rw[a.o]),_,by first|exact World.drewN_drewN _ _ _|rfl⟩
         ·cases k2:(p2.toList==ad.toList)
          ·have a:=Aa (J.o (fun e=>by rw[Cy]at k2;simp only[decide_eq_false_iff_not]at k2;exact k2 (by cases e;rfl)))
           go_wp2;go_quiet (fail);go_wp2;go_ret;exact⟨Al (by rw[a.o]),_,by first|exact World.drewN_drewN _ _ _|rfl⟩
          ·have A:=Aa (show((aa,p2):IN)=(ab,ad)from by rw[Cy]at v k2;rw[of_decide_eq_true v,of_decide_eq_true k2])
           go_wp2;go_quiet (fail);go_wp2;go_roundg (b.length-(j+1))
           case measure=>omega
           case rel=>exact⟨j+1,_,by go_num,V,wQ _,by first|exact World.drewN_drewN _ _ _|rfl,ADc K.o O.o Q.o A.o⟩
        ·have A:=Aa (show((D,E,b):AY)=(s1,F,h)from by
          have p:=K.o;rw[xB (by omega),xB (by have:=H.o;omega)]at p;rw[G.o.1,G.o.2,p])
         go_wp2;go_roundg (l.length-(i+1))
         case measure=>omega
         case rel=>exact⟨i+1,C,by go_num,W,wQ _,rfl,ADc L.o M.o P.o A.o⟩
      ·have ax:((b.length:Int)!=(h.length:Int))=true:=by simp;omega
       have a:=Aa (x.o (fun e=>y (by cases e;rfl)));clear y;go_wp2;go_quiet (fail);go_wp2;go_ret;exact⟨Al (by rw[a.o]),_,by first|exact World.drewN_drewN _ _ _|rfl⟩
   ·have al:=Aa (show q=true from by
     rw[<-B.o];apply xM;have p:=L.o;rw[xB (by omega),xB (by have:=I.o;omega)]at p;exact p)
    go_wp2;go_ret;exact⟨Al (by rw[al.o]),n,rfl⟩
 ·have ay:((l.length:Int)!=(m.length:Int))=true:=by simp;omega
  have a:=Aa (show q=false from by rw[<-B.o];exact wY (fun e=>z (by rw[e])));clear z;go_enter func9,ntmps9;go_wp2;go_ret;exact⟨Al (by rw[a.o]),0,rfl⟩
section
variable {x:yF} {ys zs:List AY} {role vid:yF}
theorem AEk(a:(ABc x ys role vid).2≠0):(ABc x ys role vid).1=[]:=by
 unfold ABc at a⊢;split
 ·rename_i b
  rw[xH b]at a;split
  ·rfl
  ·rename_i c;rw[xG c]at a;exact absurd rfl a
 ·rfl
theorem ADZ(a:(ABc x ys role vid).2=0):Eo x ys=0/\Ef (Ao (Ad x)).1.roles role≠[]/\(ABc x ys role vid).1=ABh (Ao (Ad x)).1 (Ef (Ao (Ad x)).1.roles role) vid ys:=by
 unfold ABc at a⊢;by_cases b:Eo x ys=0
 ·rw[xH b]at a⊢
  by_cases c:Ef (Ao (Ad x)).1.roles role=[]
  ·rw[xH c]at a;cases a
  ·rw[xG c];exact⟨b,c,rfl⟩
 ·rw[xG b]at a;exact absurd a b
theorem AEy(g:QI ys):QI (ABc x ys role vid).1:=by
 by_cases h:(ABc x ys role vid).2=0
 ·obtain⟨_,_,e⟩:=ADZ h
  rw[e];refine⟨wV (List.length_filterMap_le _ _) g.l,fun z i=>?_⟩;obtain⟨y,f,e⟩:=List.mem_filterMap.1 i;obtain⟨rfl,_⟩:=ACA e;obtain⟨a,b,c⟩:=g.c y f;exact⟨a,wV (List.length_filter_le _ _) b,fun d hd=>c d (List.mem_filter.1 hd).1⟩
 ·rw[AEk h]
  exact⟨by decide,fun y f=>by simp at f⟩
theorem ADA(g:(ABc x ys role vid).2=0)(d:ABx (Ao (Ad x)).1/\Ov (Ao (Ad x)).1)(qt vt:yF)(b:Int):Kc x (ABc x ys role vid).1 role vid qt vt b=Kc x ys role vid qt vt b/\(Kc x ys role vid qt vt b).2=true/\ABc x (ABc x ys role vid).1 role vid=((ABc x ys role vid).1,0):=by
 obtain⟨a,h,e⟩:=ADZ g;obtain⟨c,hs⟩:=Yr a;have i:=Qe x c;have f:Eo x (ABc x ys role vid).1=0:=by
  unfold Eo;rw[xH c,e,xH (AEm hs)]
 refine⟨?_,?_,?_⟩
 ·unfold Kc
  rw[xH a,xH f,e,ADi d.2 c d.1 hs]
 ·unfold Kc
  rw[xH a]
 ·rw[ABc,xH f,xG h,e,AEj i d.1 hs]
theorem AEv(c:(ABc x ys role vid).2=0)(d:(ABc x zs role vid).2=0)(a:ABx (Ao (Ad x)).1/\Ov (Ao (Ad x)).1)(e:(ABc x ys role vid).1=(ABc x zs role vid).1)(qt vt:yF)(b:Int):Kc x zs role vid qt vt b=Kc x ys role vid qt vt b:=by
 rw[<-(ADA c a qt vt b).1,<-(ADA d a qt vt b).1,e]
end
theorem AEA(x:yF)(w:World)(hs:x.size<=2000000)(V:Option Addr)(X:Nat)(ys:List AY)(ay:Fv w (.slice V ys.length X) ys)(L:QI ys)(aZ:Option Addr)(Y:Nat)(h:List AY)(az:Fv w (.slice aZ h.length Y) h)(Z:QI h)(hit:GM w)(role vid qt vt:yF)(b:Int)(u:role.size<=2000000)(aw:qt.size<=2000000)(ax:vt.size<=2000000):
 Calls prog 3 #[.string x,.slice V ys.length X,.slice aZ h.length Y,.agg #[.string role,.string vid,.string qt,.string vt,.int .i64 b]] w fun e w'=>e=.returned (.bool true)/\yG w w':=by
 have aP:=Aa (fun(d:World) (f:yG w d)=>uL d (hit.below f));have Q:=Aa (fun(d:World) (f:yG w d)=>AEw x d (by unfold maxLen;omega) V X ys role vid u (ay.below f) L.l L.c);have R:=Aa (fun(d:World) (f:yG w d)=>AEw x d (by unfold maxLen;omega) aZ Y h role vid u (az.below f) Z.l Z.c);have K:QI (ABc x ys role vid).1:=AEy L;have T:=Aa (fun(d:World) (a:Option Addr) (c:Nat) (g:Fv d (.slice a (ABc x ys role vid).1.length c) (ABc x ys role vid).1)=>AEw x d (by unfold maxLen;omega) a c (ABc x ys role vid).1 role vid u g K.l K.c);have aa:=Aa (fun(d:World) (f:yG w d)=>Ue x d hs V X ys (ay.below f) L (hit.below f) role vid qt vt b u aw ax);have p:=Aa (fun(d:World) (f:yG w d) (a:Option Addr) (c:Nat) (g:Fv d (.slice a (ABc x ys role vid).1.length c) (ABc x ys role vid).1)=>Ue x d hs a c (ABc x ys role vid).1 g K (hit.below f) role vid qt vt b u aw ax);have aD:=Aa (fun(d:World) (f:yG w d)=>Ue x d hs aZ Y h (az.below f) Z (hit.below f) role vid qt vt b u aw ax);have P:=Aa (fun(g:(ABc x ys role vid).2=0) (m:ABx (Ao (Ad x)).1/\Ov (Ao (Ad x)).1)=>ADA g m qt vt b);have F:=Aa (fun(g:(ABc x ys role vid).2=0) (bk:(ABc x h role vid).2=0) (m:ABx (Ao (Ad x)).1/\Ov (Ao (Ad x)).1) e=>AEv g bk m e qt vt b);have O:=Aa (fun(g:(ABc x ys role vid).2=0)=>(ADZ g).1);have v:=Aa (AEk (x:=x) (ys:=ys) (role:=role) (vid:=vid));have N:=Aa (AEk (x:=x) (ys:=h) (role:=role) (vid:=vid));have s:=Aa K;obtain⟨bb,aY⟩:∃S,S=ABc x ys role vid:=⟨_,rfl⟩;obtain⟨bc,a0⟩:∃S,S=ABc x h role vid:=⟨_,rfl⟩;rw[<-aY]at Q T p P F O v s;rw[<-a0]at R F N;obtain⟨t,M⟩:=bb;obtain⟨aS,k2⟩:=bc;simp only[]at Q T p P F O v N R s;have a2:=bA (wR w.heap.size w) (.cells #[.string role,.string vid,.string qt,.string vt,.int .i64 b] 26);have ah:=Aa (wX w (.cells #[.string role,.string vid,.string qt,.string vt,.int .i64 b] 26));have ab:=Aa a2;clear ay L az Z hit a2 K aY a0;go_enter func3,ntmps3;go_upto_region 1 with fail;generalize w.alloc (.cells #[.string role,.string vid,.string qt,.string vt,.int .i64 b] 26)=bd at*;go_wp2_with fail;refine(aP.o bd ab.o).mono ?_;rintro _ w2 ⟨rfl,aq⟩;have ak:=Aa (bT ab.o aq);have y:=Aa ((aq.block _ (Ab ah.o)).trans ah.o);have c2:=Ac y.o;have bl:=Ab y.o;clear aq aP ah ab;go_wp2_with fail;refine(Q.o w2 ak.o).mono ?_;rintro _ w3 ⟨aL,cL,rfl,aW,ar,a1⟩;have aO:=Aa a1;have aF:=Aa aW;have al:=Aa (bT ak.o ar);have z:=Aa ((ar.block _ (Ab y.o)).trans y.o);clear ar a1 aW ak y c2 bl Q;have c3:=Ac z.o;have bm:=Ab z.o;go_wp2_with fail;refine(R.o w3 al.o).mono ?_;rintro _ w4 ⟨bv,bz,rfl,aX,W, -⟩;have aH:=Aa aX;have ad:=Aa (aF.o.below W);have am:=Aa (bT al.o W);have A:=Aa ((W.block _ (Ab z.o)).trans z.o);clear W aX al z c3 bm R aF;have c4:=Ac A.o;have bn:=Ab A.o;go_upto_region 4 with fail;go_cut [60] (fun v60 br=>v60=.bool false/\br=w4)
 case first=>
  by_cases i:M=0<;>by_cases j:k2=0
  ·subst i;subst j
   go_wp2;go_meet;exact⟨rfl,rfl⟩
  ·have e:=N.o j
   subst i;subst e;have av:((k2:Int)!=0)=true:=by simp;omega
   clear j;go_wp2;go_meet;exact⟨rfl,rfl⟩
  ·have e:=v.o i
   subst j;subst e;have av:((M:Int)!=0)=true:=by simp;omega
   clear i;go_wp2;go_meet;exact⟨rfl,rfl⟩
  ·have e:=v.o i
   have bi:=N.o j;subst e;subst bi;have bj:((M:Int)!=0)=true:=by simp;omega
   have av:((k2:Int)!=0)=true:=by simp;omega
   clear i j;go_wp2;go_meet;exact⟨rfl,rfl⟩
 case rest=>
  obtain⟨rfl,rfl⟩:=hcut;by_cases i:M=0
  rotate_left
  ·have bj:((M:Int)!=0)=true:=by simp;omega
   clear i;go_wp2;go_ret;exact⟨rfl,am.o⟩
  subst i;have m:=aO.o (O.o rfl);obtain⟨a5,a6,a7⟩:=P.o rfl m;have aj:=Aa (T.o wc aL cL ad.o);rw[a7]at aj;have ai:=Aa (fun g e=>F.o rfl g m e);rw[a5]at p;generalize Kc x ys role vid qt vt b=a8 at*;generalize Kc x h role vid qt vt b=C at*;obtain⟨aC,bs⟩:=a8;obtain⟨bt,bu⟩:=C;simp only[]at a6 aa p aD ai;subst a6;clear P F aO O v T a5 a7 m;go_wp2_with fail;refine aj.o.mono ?_;rintro _ w5 ⟨aK,bx,rfl,aV,G, -⟩;have aE:=Aa aV;have ae:=Aa (ad.o.below G);have aI:=Aa (aH.o.below G);have aQ:=Aa (bT am.o G);have B:=Aa ((G.block _ (Ab A.o)).trans A.o);clear aV G aj ad aH am A c4 bn;have bf:=Ac B.o;have bo:=Ab B.o;have k:=Aa (AEx _ _ t t w5 aE.o ae.o (by have:=s.o.l;omega) (fun r aB=>by have:=(s.o.c r aB).2.1;omega));rw[show decide (t=t)=true from xM rfl]at k;go_wp2_with fail;refine k.o.mono ?_;rintro _ w6 ⟨rfl,n,a3⟩;have H:yG w5 w6:=by rw[a3];exact below_drewN (wR _ _) n
  clear a3;have aG:=Aa (ae.o.below H);have aJ:=Aa (aI.o.below H);have ao:=Aa (bT aQ.o H);have D:=Aa ((H.block _ (Ab B.o)).trans B.o);clear H k ae aI aQ B aE bf bo;have bg:=Ac D.o;have bp:=Ab D.o;go_wp2_with fail;refine(aa.o w6 ao.o).mono ?_;rintro _ w7 ⟨rfl,I⟩;have af:=Aa (aG.o.below I);have aM:=Aa (aJ.o.below I);have ap:=Aa (bT ao.o I);have E:=Aa ((I.block _ (Ab D.o)).trans D.o);clear I aG aJ ao D bg bp aa;have bh:=Ac E.o;have bq:=Ab E.o;go_wp2_with fail;refine(p.o w7 ap.o aL cL af.o).mono ?_;rintro _ w8 ⟨rfl,J⟩;have k:=Aa (AEx _ _ t aS w8 (af.o.below J) (aM.o.below J) (by have:=s.o.l;omega) (fun r aB=>by have:=(s.o.c r aB).2.1;omega));have aR:=Aa (bT ap.o J);have ag:=Aa ((J.block _ (Ab E.o)).trans E.o);have bC:(aC.toList==aC.toList)=true:=by simp
  clear J af aM ap E bh bq p;obtain⟨q,aA⟩:∃q,q=decide (t=aS):=⟨_,rfl⟩;rw[<-aA]at k;have a9:=Aa aA;clear aA;go_wp2_with fail;refine k.o.mono ?_;rintro _ w9 ⟨rfl,n,a4⟩;have au:yG w8 w9:=by rw[a4];exact below_drewN (wR _ _) n
  clear a4;have U:=Aa (bT aR.o au);have aN:=Aa ((au.block _ (Ab ag.o)).trans ag.o);clear au k aR ag;by_cases j:k2=0
  rotate_left
  ·have av:((k2:Int)!=0)=true:=by simp;omega
   clear j;go_wp2;go_ret;exact⟨rfl,U.o⟩
  subst j;cases q
  ·go_wp2
   go_ret;exact⟨rfl,U.o⟩
  have aU:=ai.o rfl (of_decide_eq_true a9.o.symm);obtain⟨rfl,rfl⟩:=Prod.mk.inj aU;have bw:=Ac aN.o;have bB:=Ab aN.o;clear aU ai;go_wp2_with fail;refine(aD.o w9 U.o).mono ?_;rintro _ bD ⟨rfl,aT⟩;have ba:=Aa (bT U.o aT);clear aT;go_wp2;go_ret;exact⟨rfl,ba.o⟩
end Go.Proofs.YtogdodlibkckkaaGreatDoor
