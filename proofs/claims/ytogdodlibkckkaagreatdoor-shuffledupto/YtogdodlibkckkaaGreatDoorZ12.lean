import Derived.Test.YtogdodlibkckkaaGreatDoorZ11
import Derived.Deep.OwnRows
namespace Go.Proofs.YtogdodlibkckkaaGreatDoor
set_option maxHeartbeats 20000000
set_option maxRecDepth 100000
open Go.RowKit Tryz
open Go.Maps Tryz
abbrev OS:=List Nat×List Bool
def GS(a:List yF)(st:OS)(x:yF):OS:=if st.2.getD (Af a x).toNat false=true then st else(st.1++[(Af a x).toNat],st.2.set (Af a x).toNat true)
def RI(roles:List Au)(j:Nat):List yF:=match roles[j]? with
 |some r=>r.inc
 |none=>[]
def Ny(roles:List Au)(st:OS):OS:=(RI roles (st.1.getLastD 0)).foldl (GS (roles.map Au.name)) (st.1.dropLast,st.2)
def CU(roles:List Au):Nat->OS->List Bool
 |0,st=>st.2
 |f+1,st=>if st.1.length=0 then st.2 else CU roles f (Ny roles st)
def Ns(l:List Bool):Nat:=l.countP (fun x=>!x)
def Fp(st:OS):Nat:=2*Ns st.2+st.1.length
def Bw(l:List Bool):List Value:=l.map Value.bool
def GW(l:List Nat):List Value:=l.map fun j=>Value.int .i64 (j:Nat)
theorem fO(l:List Bool)(j:Nat)(a:l[j]?=some false):Ns (l.set j true)+1=Ns l:=by
 unfold Ns
 induction l generalizing j with
 |nil=>simp at a
 |cons x l b=>
  cases j with
  |zero=>simp at a;subst a;simp
  |succ j=>
   simp only[List.set_cons_succ,List.countP_cons];have:=b j (by simpa using a);omega
theorem eD(l:List Nat):l.dropLast=l.take (l.length-1):=by rw[List.dropLast_eq_take]
theorem pS{w:World}{base n cap m g:Nat}{e:TypeId}{xs:List Value}(a:w.ownsRow base e 1 (.slice (some ⟨g,0,none⟩) n cap) n xs)(s:m<=n):w.ownsRow base e 1 (.slice (some ⟨g,0,none⟩) m cap) m (xs.take m):=by
 have r:=a.1;rcases a.2 with⟨c,_⟩|⟨p,l,b,k,i,j,q,d,f,h⟩
 ·cases c
 ·cases k
  refine⟨by rw[List.length_take];omega,Or.inr ⟨_,_,b,rfl,i,j,by omega,d,f,?_⟩⟩;rw[<-h,List.take_take,Nat.mul_one,Nat.min_eq_left (by omega)]
theorem BS.below{w w':World}{a n:Nat}{D:DataW Unit}(b:BS w a n D)(hb:yG w w'):BS w' a n D:=
 World.ownsMap.kept b ⟨hb.os,hb.tape,hb.output,hb.size,fun i c _=>hb.block i c⟩ (by simp:some a≠none)
theorem Ma(l:List yF)(x:yF)(j:Nat)(d:l.Nodup)(b:l[j]?=some x):Af l x=j:=by
 unfold Af;rw[JE l x 0 j (fun y f e=>by
  subst e;obtain⟨i,a⟩:=List.mem_iff_getElem?.1 f;have c:i<j:=by
   have:=(wU.1 a).1;simp at this;omega
  rw[List.getElem?_take_of_lt c]at a;have:=(List.getElem?_inj (wU.1 a).1 d).1 (a.trans b.symm);omega) b]
 simp
theorem info3:(prog.info? 3).map (fun i=>(i.zero,i.size,i.bytes))=some (some (.int .i64 0),1,8):=by kernel_rfl
theorem info4:(prog.info? 4).map (fun i=>(i.zero,i.size,i.bytes))=some (some (.bool false),1,1):=by kernel_rfl
theorem NK(n:Nat):madeCells #[Value.bool false] n=(Bw (List.replicate n false)).toArray:=by
 apply Array.toList_inj.1;rw[toList_madeCells_one];simp[Bw]
theorem oG(a:List yF)(st:OS)(x:yF)(b:(Af a x).toNat<st.2.length):Fp (GS a st x)<=Fp st/\(GS a st x).2.length=st.2.length:=by
 unfold GS;split
 ·exact⟨wQ _,rfl⟩
 ·rename_i c
  have d:st.2[(Af a x).toNat]?=some false:=by
   rw[List.getD_eq_getElem?_getD,wS b]at c;rw[wS b];simpa using c
  have:=fO st.2 _ d;refine⟨?_,by simp⟩;unfold Fp;simp only[xJ,xU,List.length_nil];omega
theorem Vq(w:World)(S:Nat)(ce cd cb cf cc:Value)(a:List (Au×Value))(bB:List (Aq×Value×Value×Value))(bA:List (At×Value))(bC:List (Aw×Value))(names:List yF)(place ay b7:Nat)(D:DataW Unit)(B:SV w S ce cd cb cf cc a bB bA bC names)(aK:BS w ay b7 D)(ba:PM (a.map rN) D)(a1:(a.map rN).Nodup)(aU:∀x∈a,∀y∈x.1.inc,y∈a.map rN/\y.size<=4000)(bY:place<a.length):
 Calls prog 57 #[.pointer (some ⟨S,0,none⟩),.int .i64 place,.map (some ay)] w fun e w'=>e=.returned (.slice (some ⟨w.heap.size,0,none⟩) a.length a.length)/\w'.heap[w.heap.size]?=some (.cells (Bw (CU (a.map Prod.fst) (2*a.length+1) ([place],List.replicate a.length false))).toArray 4 (0,0))/\yG w w':=by
 obtain⟨b6,bS,b3,b4,b5⟩:=info_parts info3;have cw:=B.lr;have cy:=run_make_row' (P:=prog) 142 4 (.bool false) 1 underlying142 info4 rfl .i64 .i64 a.length (by omega) (by omega);have al:=Aa B;have bq:=Aa aK;have bu:=Aa ba;have bs:=Aa a1;have bn:=Aa aU;have ck:=Ab B.sc;obtain⟨aA,aE,G⟩:=An B.r.own;subst G;have c0:w.cell? ⟨S,0,none⟩=some (.slice aA a.length aE):=Ac B.sc 0;generalize aJ:CU (a.map Prod.fst) (2*a.length+1) ([place],List.replicate a.length false)=O at*;have bk:=Aa aJ;clear B aK ba a1 aU aJ;go_enter func57,ntmps57;go_wp2_with fail;have W:yG w ((w.alloc (.cells (madeCells #[.bool false] a.length) 4)).alloc (.cells #[.int .i64 place] 3)):=Jk _ _ _;have af:=LA w (.cells (madeCells #[.bool false] a.length) 4 (0,0)) (.cells #[.int .i64 place] 3 (0,0));have ae:((w.alloc (.cells (madeCells #[.bool false] a.length) 4)).alloc (.cells #[.int .i64 place] 3)).ownsRow (w.heap.size+1) 3 1 (.slice (some ⟨w.heap.size+1,0,none⟩) 1 1) [place].length (GW [place]):=⟨rfl,Or.inr ⟨_,1,_,rfl,wQ _,MC _ _ _,wQ _,by decide,rfl,rfl⟩⟩;rw[NK]at W af ae⊢;generalize ((w.alloc (.cells (Bw (List.replicate a.length false)).toArray 4)).alloc (.cells #[.int .i64 place] 3))=cF at*;go_loopg [8,9,10,12,13,42,43,44] (Fp ([place],List.replicate a.length false)) (fun aj v8 v9 v10 v12 v13 v42 v43 v44 wr=>∃(b:List Nat) (k:List Bool) (f:Nat),Fp (b,k)<=aj/\Fp (b,k)<=f/\Fp (b,k)<=2000/\wr.ownsRow (w.heap.size+1) 3 1 v8 b.length (GW b)/\wr.heap[w.heap.size]?=some (.cells (Bw k).toArray 4 (0,0))/\k.length=a.length/\(∀j∈b,j<a.length)/\yG w wr/\O=CU (a.map Prod.fst) f (b,k))
 case atStart=>
  have K:Fp ([place],List.replicate a.length false)=2*a.length+1:=by unfold Fp Ns;simp[List.countP_replicate]
  exact⟨[place],List.replicate a.length false,2*a.length+1,wQ _,by omega,by omega,ae,af,by simp,by simpa using bY,W,bk.o.symm⟩
 case round=>
  clear W af ae;obtain⟨l,rfl⟩:∃l:World,l=wr:=⟨_,rfl⟩;obtain⟨b,k,f,cz,cx,J,s,t,bN,a3,hb,hrel⟩:=hrel;have R:=Aa hrel;have aw:=Aa a3;have am:=Aa t;have bO:=Ab t;clear hrel a3 t;obtain⟨bD,aC,b0⟩:=An s;subst b0;have cB:b.length<=2000:=by unfold Fp at J;simp only[]at J;omega
  by_cases L:b.length=0
  ·have bi:=Aa (show O=k from by
    rw[R.o];cases f with
    |zero=>rfl
    |succ f=>rw[CU,xH L])
   have ca:¬(0:Int)<(b.length:Int):=by omega
   clear R;go_wp2;go_ret;exact⟨rfl,by rw[bi.o];exact am.o,hb⟩
  ·have ca:(0:Int)<(b.length:Int):=by omega
   obtain⟨g,bM⟩:∃g,bD=some ⟨g,0,none⟩:=by
    rcases s.2 with⟨e,bI⟩|⟨g,cap,bG,G,_⟩
    ·omega
    ·cases G;exact⟨g,rfl⟩
   subst bM;have aY:b.length-1<b.length:=by omega
   have ah:=wS aY;have aR:l.cell? ⟨g,b.length-1,none⟩=some (.int .i64 (b[b.length-1]:Nat)):=by
    have:=s.cellAt (b.length-1) (by omega);simpa [GW,ah]using this
   have bT:b[b.length-1]<a.length:=aw.o _ (List.getElem_mem _);have bp:=Aa (show b.getLastD 0=b[b.length-1]from by
    rw[List.getLastD_eq_getLast?,List.getLast?_eq_getElem?,ah];rfl)
   have M:=al.o.below hb;have aF:l.cell? ⟨S,0,none⟩=some (.slice aA a.length aE):=Ac M.sc 0;have bd:=pS s (m:=b.length-1) (by omega);have cn:b.length<=aC:=by
    rcases s.2 with⟨e,bI⟩|⟨ci,bE,bG,G,_,_,bW,_⟩
    ·omega
    ·cases G;exact bW
   clear ah;generalize bQ:b[b.length-1]=v at*;clear bQ;have C:=wS bT;obtain⟨V,ch,b2,Y⟩:=M.r.cell (fun _=>rfl) v _ C;cases b2;have bX:=M.r.ok _ (wT C);have aG:l.cell? ⟨V,v*2,none⟩=some (.string a[v].1.name):=by simpa using Y 0 _ rfl
   have bH:l.cell? ⟨V,v*2+1,none⟩=some a[v].2:=Y 1 _ rfl;have bU:=bn.o _ (wT C);have a2:=(al.o.r.ok _ (wT C)).1;have bm:=Aa (show RI (a.map Prod.fst) v=a[v].1.inc from by unfold RI;rw[xI,C];rfl);clear Y C;generalize a[v]=b9 at*;obtain⟨⟨b8,p⟩,cE⟩:=b9;obtain⟨bb,bZ⟩:=bX;simp only[]at*;obtain⟨U,aB,rfl⟩:=An bb;have ar:=Aa (show(b.dropLast).length+1=b.length from by rw[List.length_dropLast];omega);have bh:=Aa (show GW b.dropLast=(GW b).take (b.length-1)from by unfold GW;rw[eD,List.map_take]);have bt:=Aa L;have bo:=Aa (show∀z,CU (a.map Prod.fst) (z+1) (b,k)=CU (a.map Prod.fst) z (Ny (a.map Prod.fst) (b,k))from fun z=>by rw[CU,xG L]);have a0:Fp (b.dropLast,k)+1=Fp (b,k):=by unfold Fp;simp only[];have:=ar.o;omega
   have bw:=Aa (show Ny (a.map Prod.fst) (b,k)=p.foldl (GS (a.map rN)) (b.dropLast,k)from by
    unfold Ny;simp only[];rw[bp.o,bm.o,List.map_map];rfl)
   generalize bR:b.length=bg at*;clear L aY bR;obtain⟨m,rfl⟩:∃m,bg=m+1:=⟨bg-1,by have:=bt.o;omega⟩;simp only[Nat.add_sub_cancel]at*;have Z:b.dropLast.length=m:=by have:=ar.o;omega
   have cl:=hb.size;have cs:(0:Int)<=(v:Int):=by omega
   have ct:(v:Int)<(a.length:Int):=by omega
   have cI:g<l.heap.size:=wW l _ aR;have cG:V<l.heap.size:=wW l _ aG;have cH:S<l.heap.size:=wW l _ aF;go_upto_region 5 with fail;go_cut [10] (fun v10 wc=>v10=.pointer (some ⟨l.heap.size,0,none⟩)/\wc.heap[l.heap.size]?=some (.cells #[.string b8,.slice U p.length aB] 134 (0,0))/\yG l wc)
   case first=>
    go_region;all_goals(try go_wp2_with fail)
    all_goals(
     go_meet;exact⟨rfl,wX _ _,((wR _ _).alloc (wQ _) _).drew⟩)
   case rest=>
    obtain⟨rfl,aS,I⟩:=hcut;have bc:=DU.of_own a2;have bx:=Aa bc;have aP:yG w wc:=hb.trans (I.mono hb.size);have a9:=AT bd (I.mono (wQ _));have aO:=(I.block _ bO).trans am.o;have bF:wc.cell? ⟨l.heap.size,1,none⟩=some (.slice U p.length aB):=Ac aS 1;have a5:wc.ownsRow (w.heap.size+1) 3 1 (.slice (some ⟨g,0,none⟩) m aC) b.dropLast.length (GW b.dropLast):=by rw[bh.o,Z];exact a9
    have av:=Aa a5;have ap:=Aa aO;have bl:=Aa (show∀j∈b.dropLast,j<a.length from fun j F=>aw.o j ((List.dropLast_sublist b).subset F));have au:=Aa Z;have cC:p.length<=803:=bZ;clear s a9 aO bd aR aG bH aF aS bb a2 bc M a5 Z;go_wp2;go_loopg [8,12,13,44] p.length (fun aj v8 v12 v13 v44 wr=>∃(i:Nat) (d:List Nat) (h:List Bool),v44=.int .i64 i/\i<=p.length/\p.length-i<=aj/\wr.ownsRow (w.heap.size+1) 3 1 v8 d.length (GW d)/\wr.heap[w.heap.size]?=some (.cells (Bw h).toArray 4 (0,0))/\h.length=a.length/\(∀j∈d,j<a.length)/\yG w wr/\Fp (d,h)<=Fp (b.dropLast,k)/\(p.take i).foldl (GS (a.map rN)) (b.dropLast,k)=(d,h))
    case atStart=>exact⟨0,b.dropLast,k,rfl,wZ _,by omega,by rw[au.o];have:=av.o;rw[au.o]at this;exact this,ap.o,bN,bl.o,aP,wQ _,by simp⟩
    case round=>
     clear av ap aP bF I;obtain⟨i,d,h,rfl,cq,cr,s,t,X,a4,E,K,aT⟩:=hrel;have Q:=Aa a4;have aq:=Aa aT;have ao:=Aa t;clear a4 aT;have cm:=Ab t;obtain⟨az,aD,b1⟩:=An s;subst b1;have cA:d.length<=2000:=by unfold Fp at K J a0;simp only[]at K J a0;omega
     by_cases ad:i<p.length
     ·have N:=wS ad
      obtain⟨cg,bE,bJ,_,aH⟩:=bx.o.below E;cases bJ;obtain⟨cj,ak,bL,aI⟩:∃g ak,U=some ⟨g,ak,none⟩/\∀(j:Nat) (x:yF),p[j]?=some x->wr.cell? ⟨g,ak+j,none⟩=some (.string x):=by
       rcases aH with e|e
       ·rw[e]at ad;simp at ad
       ·exact e
      subst bL;have co:=aI i _ N;have ai:=bU _ (wT N);have bz:=Aa N;clear N aI aH;generalize p[i]=y at*;have aX:=Ic y ai.2;obtain⟨c,cD,H,_⟩:=(bq.o.below E).lookup_int Ci underlying65 underlying3 (GL _) aX;obtain⟨j,F,aW⟩:=bu.o.val y ai.1;have bP:c=j:=by
       rw[aW]at H;simp only[DataW.lit.injEq,Lit.int.injEq,true_and]at H;exact H.symm
      subst bP;have ab:=Ma _ y j bs.o F;have bV:j<a.length:=by have:=(wU.1 F).1;simpa using this
      have aV:j<h.length:=by omega
      have ag:=wS aV;have aQ:wr.cell? ⟨w.heap.size,j,none⟩=some (.bool h[j]):=by
       rw[Ac t j];simp[Bw,ag]
      have cp:=Ak t j;have ax:=Aa (show(p.take (i+1)).foldl (GS (a.map rN)) (b.dropLast,k)=GS (a.map rN) (d,h) y from by
       rw[xL,bz.o,List.foldl_append,aq.o];rfl)
      have br:=Aa (oG (a.map rN) (d,h) y (by rw[ab];simpa using aV));have A:=Aa (show GS (a.map rN) (d,h) y=if h[j]=true then(d,h)else(d++[j],h.set j true)from by
       unfold GS;rw[ab];simp only[xS,List.getD_eq_getElem?_getD,ag,Option.getD_some])
      have cu:(0:Int)<=(j:Int):=by omega
      have cv:(j:Int)<(a.length:Int):=by omega
      clear H aW F ai aX ab ag;cases n:h[j]
      ·rw[n]at aQ A
       simp only[xR,if_false]at A;have aZ:∀q,(Value.slice az d.length aD).ownBlock=some q->w.heap.size+1<=q:=fun q n=>(s.lt q n).1;have a6:(wr.setCell ⟨w.heap.size,j,none⟩ (.bool true)).ownsRow (w.heap.size+1) 3 1 (.slice az d.length aD) d.length (GW d):=CE s (Ap.setT t (by decide) j (.bool true));have aM:=AI t j (.bool true);clear n;go_wp2_with (at_builtin;refine wpList_append_own _ rfl _ _ 53 rfl (w.heap.size+1) 3 b6 _ 1 8 underlying53 bS b3 b4 b5 rfl (by decide) _ _ _ rfl (a6.alloc _) ⟨wr.heap.size,0,none⟩ 1 1 [.int .i64 j] rfl rfl (Cz (wr.setCell ⟨w.heap.size,j,none⟩ (.bool true)) wr.heap.size [.int .i64 j] 3 (by simp[World.setCell])) (fun u bf=>by simp at bf;subst bf;rfl) (by unfold maxLen;omega) (by omega) (by simp[World.setCell];omega) ?_;intro v' w5 a7 aa _);have aN:w5.heap[w.heap.size]?=some (.cells (Bw (h.set j true)).toArray 4 (0,0)):=by
        rw[aa.block w.heap.size (by simp[World.setCell];omega) (fun e=>by have:=aZ _ e.symm;omega),AJ _ _ _ (by simp[World.setCell];omega),aM];congr 2;apply Array.toList_inj.1;simp[Bw,List.map_set]
       have aL:yG w w5:=((E.setCell (wQ _) _).alloc (by simp[World.setCell];omega) _).grown aa (by simp[World.setCell];omega) (fun q n=>by have:=aZ q n;omega);have a8:w5.ownsRow (w.heap.size+1) 3 1 v' (d++[j]).length (GW (d++[j])):=by
        rw[xJ,show GW (d++[j])=GW d++[.int .i64 j]from by simp[GW]];exact a7
       have T:=Aa (xZ a8 (xZ aN aL));clear a7 aa aN aL a8 a6 aM;go_wp2;go_roundg (p.length-(i+1))
       case measure=>omega
       case rel=>exact⟨i+1,d++[j],h.set j true,by go_num,by omega,wQ _,T.o.1,T.o.2.1,by simpa using X,by
        intro q n;rcases yD.1 n with n|n
        ·exact Q.o q n
        ·simp at n;subst n;exact bV,T.o.2.2,by have bK:=br.o.1;rw[A.o]at bK;omega,by rw[ax.o,A.o]⟩
      ·rw[n]at aQ A
       simp only[if_true]at A;clear n;go_wp2;go_roundg (p.length-(i+1))
       case measure=>omega
       case rel=>exact⟨i+1,d,h,by go_num,by omega,wQ _,s,ao.o,X,Q.o,E,K,by rw[ax.o,A.o]⟩
     ·have bj:=Aa (show p.foldl (GS (a.map rN)) (b.dropLast,k)=(d,h)from by
       have:=aq.o;rw[xB (by omega)]at this;exact this)
      obtain⟨z,rfl⟩:∃z,f=z+1:=⟨f-1,by omega⟩;have bv:=Aa (show O=CU (a.map Prod.fst) z (d,h)from by
       rw[R.o,bo.o,bw.o,bj.o])
      go_wp2;go_roundg (Fp (d,h))
      case measure=>omega
      case rel=>exact⟨d,h,z,wQ _,by omega,by omega,s,ao.o,X,Q.o,E,bv.o⟩
theorem SV.shapedR{w:World}{S:Nat}{f q n s p:Value}{d:List (Au×Value)}{h:List (Aq×Value×Value×Value)}{g:List (At×Value)}{i:List (Aw×Value)}{names:List yF}(e:SV w S f q n s p d h g i names):Hq Qi w f 2 (d.map rN):=
 e.r.shaped Qi rN (fun _=>rfl) (fun _=>rfl) (fun x m k u j b=>by
  obtain⟨a,c,l⟩:=An (e.r.ok x m).1;have:Nv x=[.string x.1.name,x.2]:=rfl;rw[this]at b
  match k,j,b with
  |1,_,b=>simp at b;exact⟨a,_,c,by rw[<-b];exact l⟩
  |k+2,_,b=>simp at b)
theorem Vi(a:List yF):∀(l:List yF) (st:OS),(l.foldl (GS a) st).2.length=st.2.length
 |[],_=>rfl
 |x::l,st=>by
  rw[List.foldl_cons,Vi a l];unfold GS;split<;>simp
theorem Vp(roles:List Au)(n:Nat)(f:Nat)(_:0=0):∀(_:Nat) (st:OS),st.2.length=n->(CU roles f st).length=n:=by
 intro _
 induction f with
 |zero=>intro st a;exact a
 |succ f b=>
  intro st a;rw[CU];split
  ·exact a
  ·refine b _ ?_
   unfold Ny;rw[Vi];exact a
theorem sZ(w:World)(S:Nat)(aL bk bi bl bj:Value)(a:List (Au×Value))(aq:List (Aq×Value×Value×Value))(ap:List (At×Value))(ar:List (Aw×Value))(names:List yF)(z:SV w S aL bk bi bl bj a aq ap ar names)(H:∀x∈a,x.1.name.size<=4000/\∀y∈x.1.inc,y.size<=4000):
 Calls prog 84 #[.pointer (some ⟨S,0,none⟩)] w fun e w'=>e=.returned (.bool (Dq (a.map rN)&&(a.all (fun(x:Au×Value)=>x.1.inc.all fun y=>AS y (a.map rN))&&(List.range a.length).all (fun(i:Nat)=>!(CU (a.map Prod.fst) (2*a.length+1) ([i],List.replicate a.length false)).getD i false))))/\yG w w':=by
 have af:=Aa z;have al:=Aa H;have bw:=z.lr;have aF:=XL w aL (a.map rN) z.shapedR (by simp;omega) (by
  intro x f;obtain⟨r,a9,rfl⟩:=List.mem_map.1 f;exact(H r a9).1)
 obtain⟨aS,aV,bb⟩:=An z.r.own;subst bb;have c0:w.cell? ⟨S,0,none⟩=some (.slice aS a.length aV):=Ac z.sc 0;generalize ay:(Dq (a.map rN)&&(a.all (fun(x:Au×Value)=>x.1.inc.all fun y=>AS y (a.map rN))&&(List.range a.length).all (fun(i:Nat)=>!(CU (a.map Prod.fst) (2*a.length+1) ([i],List.replicate a.length false)).getD i false)))=v at*;have J:=Aa ay;clear z H ay;go_enter func84,ntmps84;go_wp2_with fail;refine aF.mono ?_;clear aF;rintro e w1 ⟨K,D,rfl,bq,X,Y,M⟩;have ak:=Aa Y;have ai:=Aa X;have c1:=Ah M c0;have a6:∀(n:Nat) (ae:TypeId),(Builtin.len_ #[65] ae #[.map (some K)]).run prog (w1.drewN n)=.ok (.int .i64 (Maps.size D)) (w1.drewN n):=fun n ae=>World.ownsMap.len (BS.below X (below_drewN (wR _ _) n)) underlying65 ae;have aJ:Dq (a.map rN)=decide (Maps.size D=a.length):=by
  rw[Bool.eq_iff_iff,JI,<-Y.eq];simp
 have E:=Aa aJ;clear aJ Y X;generalize ba:Maps.size D=ad at*;clear ba;by_cases Z:ad=a.length
 ·have bh:((ad:Int)==(a.length:Int))=true:=by simp;omega
  have aO:=Aa (show(a.map rN).Nodup from by rw[<-JI,E.o];simp[Z]);have R:=Aa (show v=(a.all (fun(x:Au×Value)=>x.1.inc.all fun y=>AS y (a.map rN))&&(List.range a.length).all (fun(i:Nat)=>!(CU (a.map Prod.fst) (2*a.length+1) ([i],List.replicate a.length false)).getD i false))from by
   rw[<-J.o,E.o];simp[Z])
  clear J E;go_wp2;go_quiet (fail);have aT:=Ah (below_drewN (wR _ _) nq) c1;have q:yG w (w1.drewN nq):=below_drewN M nq;have aj:=Aa (BS.below ai.o (below_drewN (wR _ _) nq));clear ai a6 c1;generalize w1.drewN nq=w2 at*;clear M;go_wp2;go_loopg [5,7,8,9,29,34,35,36] a.length (fun m v5 v7 v8 v9 v29 v34 v35 v36 wr=>∃k:Nat,v29=.int .i64 k/\k<=a.length/\a.length-k<=m/\yG w2 wr/\((a.take k).all (fun(x:Au×Value)=>x.1.inc.all fun y=>AS y (a.map rN)))=true)
  case atStart=>exact⟨0,rfl,wZ _,by omega,wR _ _,by simp⟩
  case round=>
   obtain⟨t,rfl⟩:∃t:World,t=wr:=⟨_,rfl⟩;obtain⟨k,rfl,bu,bx,hb,az⟩:=hrel;have ag:=Aa az;clear az;have a3:yG w t:=q.trans (hb.mono q.size);by_cases a7:k<a.length
   ·have f:=wS a7
    have u:=af.o.below a3;obtain⟨av,bo,bc,V⟩:=u.r.cell (fun _=>rfl) k _ f;cases bc;have W:=(u.r.ok _ (wT f)).1;have bz:=(u.r.ok _ (wT f)).2;have aX:t.cell? ⟨av,k*2,none⟩=some (.string a[k].1.name):=by simpa using V 0 _ rfl
    have aY:t.cell? ⟨av,k*2+1,none⟩=some a[k].2:=V 1 _ rfl;have H:=(al.o _ (wT f)).2;have am:=Aa f;clear f V u;generalize a[k]=bg at*;obtain⟨⟨bf,b⟩,bA⟩:=bg;simp only[]at*;obtain⟨au,aU,rfl⟩:=An W;have aP:=Aa (DU.of_own W);clear W;have aR:=Aa (show((a.take (k+1)).all (fun(x:Au×Value)=>x.1.inc.all fun y=>AS y (a.map rN)))=(b.all fun y=>AS y (a.map rN))from by
     rw[xL,am.o,List.all_append,ag.o];simp)
    have aM:=Aa (show(b.all fun y=>AS y (a.map rN))=false->v=false from fun hF=>by
     rw[R.o,Bool.and_eq_false_iff];left;rw[Bool.eq_false_iff];intro p;rw[xP]at p;have:=p _ (wT am.o);simp only[]at this;rw[hF]at this;cases this)
    have aD:yG t (t.alloc (.cells #[.string bf,.slice au b.length aU] 134)):=(wR _ _).alloc (wQ _) _;go_wp2;go_loopg [7,8,9,36] b.length (fun m v7 v8 v9 v36 wr=>∃i:Nat,v36=.int .i64 i/\i<=b.length/\b.length-i<=m/\yG t wr/\((b.take i).all fun y=>AS y (a.map rN))=true)
    case atStart=>exact⟨0,rfl,wZ _,by omega,aD,by simp⟩
    case round=>
     clear aD aX aY;obtain⟨i,rfl,a4,a8,s,F⟩:=hrel;have B:=Aa F;clear F;have U:yG w2 wr:=hb.trans (s.mono hb.size);by_cases A:i<b.length
     ·have P:=wS A
      obtain⟨bm,bn,aZ,_,aw⟩:=aP.o.below s;cases aZ;obtain⟨bp,ab,a1,ax⟩:∃g ab,au=some ⟨g,ab,none⟩/\∀(j:Nat) (x:yF),b[j]?=some x->wr.cell? ⟨g,ab+j,none⟩=some (.string x):=by
       rcases aw with e|e
       ·rw[e]at A;simp at A
       ·exact e
      subst a1;have br:=ax i _ P;have Q:=H _ (wT P);have ao:=Aa P;clear P ax aw;generalize b[i]=y at*;have aI:=Ic y Q;have aK:=BS.below aj.o U;have l:=Aa (show((b.take (i+1)).all fun y=>AS y (a.map rN))=AS y (a.map rN)from by
       rw[xL,ao.o,List.all_append,B.o];simp)
      have h:=Aa (show AS y (a.map rN)=false->v=false from fun hF=>aM.o (by
       rw[Bool.eq_false_iff];intro p;rw[xP]at p;have:=p y (wT ao.o);rw[hF]at this;cases this))
      have N:=ak.o.hasP y;cases G:AS y (a.map rN)
      ·rw[G]at N
       have C:=Aa (h.o G);clear G h l;go_wp2_with (at_lookup;refine wpList_lookup_own_ok_int _ rfl _ _ 65 rfl 9 3 .i64 Ci underlying65 underlying3 (GL _) K _ D rfl aK _ _ rfl aI ?_;intro c a2 bd;rw[N]);go_ret;exact⟨Al (by rw[C.o]),q.trans (U.mono q.size)⟩
      ·rw[G]at N l
       clear G h;go_wp2_with (at_lookup;refine wpList_lookup_own_ok_int _ rfl _ _ 65 rfl 9 3 .i64 Ci underlying65 underlying3 (GL _) K _ D rfl aK _ _ rfl aI ?_;intro c a2 bd;rw[N]);go_roundg (b.length-(i+1))
       case measure=>omega
       case rel=>exact⟨i+1,by go_num,by omega,wQ _,s,l.o⟩
     ·have aQ:=Aa (show((a.take (k+1)).all (fun(x:Au×Value)=>x.1.inc.all fun y=>AS y (a.map rN)))=true from by
       rw[aR.o];have d:=B.o;rw[xB (by omega)]at d;exact d)
      go_wp2;go_roundg (a.length-(k+1))
      case measure=>omega
      case rel=>exact⟨k+1,by go_num,by omega,wQ _,U,aQ.o⟩
   ·have L:a.all (fun(x:Au×Value)=>x.1.inc.all fun y=>AS y (a.map rN))=true:=by
     have d:=ag.o;rw[xB (by omega)]at d;exact d
    have aN:=Aa (show∀x∈a,∀y∈x.1.inc,y∈a.map rN/\y.size<=4000 from fun x f y Q=>by
     rw[xP]at L;have d:=L x f;rw[xP]at d;exact⟨(FD _ _).1 (d y Q),(al.o x f).2 y Q⟩)
    have ah:=Aa (show v=(List.range a.length).all (fun(i:Nat)=>!(CU (a.map Prod.fst) (2*a.length+1) ([i],List.replicate a.length false)).getD i false)from by rw[R.o,L];rfl);clear L R;have aW:=Ah hb aT;go_wp2;go_loopg [10,55] a.length (fun m v10 v55 wr=>∃i:Nat,v55=.int .i64 i/\i<=a.length/\a.length-i<=m/\yG w2 wr/\((List.range i).all (fun(i:Nat)=>!(CU (a.map Prod.fst) (2*a.length+1) ([i],List.replicate a.length false)).getD i false))=true)
    case atStart=>exact⟨0,rfl,wZ _,by omega,hb,by simp⟩
    case round=>
     clear aW;obtain⟨i,rfl,a4,a8,s,F⟩:=hrel;have B:=Aa F;clear F;have aE:yG w wr:=q.trans (s.mono q.size);by_cases A:i<a.length
     ·have u:=af.o.below aE
      have aG:=Vq wr S _ _ _ _ _ a aq ap ar names i K _ D u (BS.below aj.o s) ak.o aO.o aN.o A;have l:=Aa (show((List.range (i+1)).all (fun(i:Nat)=>!(CU (a.map Prod.fst) (2*a.length+1) ([i],List.replicate a.length false)).getD i false))=(fun(i:Nat)=>!(CU (a.map Prod.fst) (2*a.length+1) ([i],List.replicate a.length false)).getD i false) i from by
       rw[List.range_succ,List.all_append,B.o];simp)
      have h:=Aa (show(fun(i:Nat)=>!(CU (a.map Prod.fst) (2*a.length+1) ([i],List.replicate a.length false)).getD i false) i=false->v=false from fun hF=>by
       rw[ah.o,Bool.eq_false_iff];intro p;rw[xP]at p;have:=p i (List.mem_range.2 A);have a0:=hF.symm.trans this;cases a0)
      have bv:(CU (a.map Prod.fst) (2*a.length+1) ([i],List.replicate a.length false)).length=a.length:=Vp _ _ _ rfl 0 _ (by simp);simp only[]at l h;generalize CU (a.map Prod.fst) (2*a.length+1) ([i],List.replicate a.length false)=I at*;clear u;go_wp2_with fail;refine aG.mono ?_;clear aG;rintro e w4 ⟨rfl,aC,aA⟩;have a5:i<I.length:=by omega
      have aa:=wS a5;have aH:w4.cell? ⟨wr.heap.size,i,none⟩=some (.bool I[i]):=by
       rw[Ac aC i];simp[Bw,aa]
      have T:=Aa (show I.getD i false=I[i]from by rw[List.getD_eq_getElem?_getD,aa];rfl);rw[T.o]at l h;have aB:yG w2 w4:=s.trans (aA.mono s.size);clear aC aA aa;have bs:(0:Int)<=(i:Int):=by omega
      have bt:(i:Int)<(a.length:Int):=by omega
      cases O:I[i]
      ·rw[O]at aH l
       clear O h T;go_wp2;go_roundg (a.length-(i+1))
       case measure=>omega
       case rel=>exact⟨i+1,by go_num,by omega,wQ _,aB,l.o⟩
      ·rw[O]at aH h
       have C:=Aa (h.o rfl);clear O h T l;go_wp2;go_ret;exact⟨Al (by rw[C.o]),q.trans (aB.mono q.size)⟩
     ·go_wp2
      go_ret;exact⟨Al (by
       rw[ah.o];have d:=B.o;rw[show i=a.length by omega]at d;exact d.symm),aE⟩
 ·have bh:((ad:Int)==(a.length:Int))=false:=by simp;omega
  have C:=Aa (show v=false from by rw[<-J.o,E.o];simp[Z]);clear J E;go_wp2;go_quiet (fail);go_wp2;go_ret;exact⟨Al (by rw[C.o]),below_drewN M _⟩
def YR(c:List (Au×Value))(b:List (Aq×Value×Value×Value))(a:List (At×Value))(d:List (Aw×Value))(names:List yF):Prop:=
 (∀x∈c,x.1.name.size<=4000/\∀y∈x.1.inc,y.size<=4000)/\(∀x∈b,(∀f∈x.1.fields,f.name.size<=4000)/\∀y∈x.1.impl,y.size<=4000)/\(∀x∈a,∀f∈x.1.fields,f.name.size<=4000)/\(∀x∈d,∀y∈x.1.members,y.size<=4000)/\∀x∈names,x.size<=4000
theorem sX(w:World)(S:Nat)(t s q u r:Value)(a:List (Au×Value))(d:List (Aq×Value×Value×Value))(c:List (At×Value))(g:List (Aw×Value))(names:List yF)(n:SV w S t s q u r a d c g names)(J:YR a d c g names):
 Calls prog 53 #[.pointer (some ⟨S,0,none⟩)] w fun e w'=>e=.returned (.bool ((Dq (a.map rN)&&(a.all (fun(x:Au×Value)=>x.1.inc.all fun y=>AS y (a.map rN))&&(List.range a.length).all (fun(i:Nat)=>!(CU (a.map Prod.fst) (2*a.length+1) ([i],List.replicate a.length false)).getD i false)))&&(Ll names&&((d.all fun x=>Gf (a.map rN) (AB (d.map oN) (c.map iN) (g.map uN)) (c.map Prod.fst) x.1)&&((c.all fun x=>Ee (a.map rN) (AB (d.map oN) (c.map iN) (g.map uN)) x.1.fields)&&((g.all fun x=>El (AB (d.map oN) (c.map iN) (g.map uN)) 2 x.1.members)&&IJ (d.map Prod.fst)))))))/\yG w w':=by
 obtain⟨z1,z2,z3,z4,F⟩:=J;have j:=sZ w S t s q u r a d c g names n z1;have v:=Aa (fun w' hb=>oH w' S t s q u r a d c g names (n.below hb) F);have B:=Aa (fun w' hb=>pE w' S t s q u r a d c g names (n.below hb) z2);have C:=Aa (fun w' hb=>jR w' S t s q u r a d c g names (n.below hb) z3);have E:=Aa (fun w' hb=>vD w' S t s q u r a d c g names (n.below hb) z4);have G:=Aa (fun w' hb=>rY w' S t s q u r a d c g names (n.below hb));generalize (Dq (a.map rN)&&(a.all (fun(x:Au×Value)=>x.1.inc.all fun y=>AS y (a.map rN))&&(List.range a.length).all (fun(i:Nat)=>!(CU (a.map Prod.fst) (2*a.length+1) ([i],List.replicate a.length false)).getD i false)))=K at*;generalize Ll names=L at*;generalize (d.all fun x=>Gf (a.map rN) (AB (d.map oN) (c.map iN) (g.map uN)) (c.map Prod.fst) x.1)=M at*;generalize (c.all fun x=>Ee (a.map rN) (AB (d.map oN) (c.map iN) (g.map uN)) x.1.fields)=N at*;generalize (g.all fun x=>El (AB (d.map oN) (c.map iN) (g.map uN)) 2 x.1.members)=O at*;generalize IJ (d.map Prod.fst)=P at*;clear n z1 z2 z3 z4 F;cases K
 ·skip
  go_enter func53,ntmps53;go_wp2_with fail;refine j.mono ?_;clear j;rintro e w1 ⟨rfl,k⟩;have b:=k;go_wp2;go_ret;exact⟨Al (by simp),b⟩
 ·skip
  cases L
  ·skip
   go_enter func53,ntmps53;go_wp2_with fail;refine j.mono ?_;clear j;rintro e w1 ⟨rfl,k⟩;have b:=k;go_wp2_with fail;refine(v.o w1 b).mono ?_;rintro e w2 ⟨rfl,l⟩;have f:=b.trans (l.mono b.size);go_wp2;go_ret;exact⟨Al (by simp),f⟩
  ·skip
   cases M
   ·skip
    go_enter func53,ntmps53;go_wp2_with fail;refine j.mono ?_;clear j;rintro e w1 ⟨rfl,k⟩;have b:=k;go_wp2_with fail;refine(v.o w1 b).mono ?_;rintro e w2 ⟨rfl,l⟩;have f:=b.trans (l.mono b.size);go_wp2_with fail;refine(B.o w2 f).mono ?_;rintro e w3 ⟨rfl,p⟩;have h:=f.trans (p.mono f.size);go_wp2;go_ret;exact⟨Al (by simp),h⟩
   ·skip
    cases N
    ·skip
     go_enter func53,ntmps53;go_wp2_with fail;refine j.mono ?_;clear j;rintro e w1 ⟨rfl,k⟩;have b:=k;go_wp2_with fail;refine(v.o w1 b).mono ?_;rintro e w2 ⟨rfl,l⟩;have f:=b.trans (l.mono b.size);go_wp2_with fail;refine(B.o w2 f).mono ?_;rintro e w3 ⟨rfl,p⟩;have h:=f.trans (p.mono f.size);go_wp2_with fail;refine(C.o w3 h).mono ?_;rintro e w4 ⟨rfl,z⟩;have m:=h.trans (z.mono h.size);go_wp2;go_ret;exact⟨Al (by simp),m⟩
    ·skip
     cases O
     ·skip
      go_enter func53,ntmps53;go_wp2_with fail;refine j.mono ?_;clear j;rintro e w1 ⟨rfl,k⟩;have b:=k;go_wp2_with fail;refine(v.o w1 b).mono ?_;rintro e w2 ⟨rfl,l⟩;have f:=b.trans (l.mono b.size);go_wp2_with fail;refine(B.o w2 f).mono ?_;rintro e w3 ⟨rfl,p⟩;have h:=f.trans (p.mono f.size);go_wp2_with fail;refine(C.o w3 h).mono ?_;rintro e w4 ⟨rfl,z⟩;have m:=h.trans (z.mono h.size);go_wp2_with fail;refine(E.o w4 m).mono ?_;rintro e w5 ⟨rfl,D⟩;have A:=m.trans (D.mono m.size);go_wp2;go_ret;exact⟨Al (by simp),A⟩
     ·skip
      go_enter func53,ntmps53;go_wp2_with fail;refine j.mono ?_;clear j;rintro e w1 ⟨rfl,k⟩;have b:=k;go_wp2_with fail;refine(v.o w1 b).mono ?_;rintro e w2 ⟨rfl,l⟩;have f:=b.trans (l.mono b.size);go_wp2_with fail;refine(B.o w2 f).mono ?_;rintro e w3 ⟨rfl,p⟩;have h:=f.trans (p.mono f.size);go_wp2_with fail;refine(C.o w3 h).mono ?_;rintro e w4 ⟨rfl,z⟩;have m:=h.trans (z.mono h.size);go_wp2_with fail;refine(E.o w4 m).mono ?_;rintro e w5 ⟨rfl,D⟩;have A:=m.trans (D.mono m.size);go_wp2_with fail;refine(G.o w5 A).mono ?_;rintro e w6 ⟨rfl,H⟩;have I:=A.trans (H.mono A.size);go_wp2;go_ret;exact⟨Al (by simp),I⟩
def SH(roles:List Au):Bool:=Dq (roles.map Au.name)&&((roles.all fun r=>r.inc.all fun y=>AS y (roles.map Au.name))&&(List.range roles.length).all fun i=>!(CU roles (2*roles.length+1) ([i],List.replicate roles.length false)).getD i false)
def NF(c:Be):yF->Nat:=AB (c.objs.map Aq.name) (c.ifs.map At.name) (c.uns.map Aw.name)
def He(c:Be):Bool:=SH c.roles&&(Ll c.names&&((c.objs.all (Gf (c.roles.map Au.name) (NF c) c.ifs))&&((c.ifs.all fun i=>Ee (c.roles.map Au.name) (NF c) i.fields)&&((c.uns.all fun u=>El (NF c) 2 u.members)&&IJ c.objs))))
def Kx(c:Be):Prop:=(∀x∈c.roles,x.name.size<=4000/\∀y∈x.inc,y.size<=4000)/\(∀x∈c.objs,(∀f∈x.fields,f.name.size<=4000)/\∀y∈x.impl,y.size<=4000)/\(∀x∈c.ifs,∀f∈x.fields,f.name.size<=4000)/\(∀x∈c.uns,∀y∈x.members,y.size<=4000)/\∀x∈c.names,x.size<=4000
theorem Ys(w:World)(S:Nat)(c:Be)(K:Ff w S c)(R:Ko c 804)(U:Kx c):
 Calls prog 53 #[.pointer (some ⟨S,0,none⟩)] w fun e w'=>e=.returned (.bool (He c))/\yG w w':=by
 obtain⟨z,v,s,A,t,b,f,d,g,P,O,N,L,Q,M,h,k,j,l⟩:=K.ex;obtain⟨m,n,p,q,W⟩:=R;obtain⟨z1,z2,z3,z4,X⟩:=U;rw[<-h]at m z1;rw[<-k]at n z2;rw[<-j]at p z3;rw[<-l]at q z4;have T:SV w S z v s A t b f d g c.names:=⟨P,O,N,L,Q,M,by simpa using m,by simpa using n,by simpa using p,by simpa using q,W⟩;have V:YR b f d g c.names:=⟨fun x a=>z1 _ (List.mem_map_of_mem a),fun x a=>z2 _ (List.mem_map_of_mem a),fun x a=>z3 _ (List.mem_map_of_mem a),fun x a=>z4 _ (List.mem_map_of_mem a),X⟩;refine(sX w S z v s A t b f d g c.names T V).mono ?_;rintro e w' ⟨rfl,hb⟩;refine⟨Al ?_,hb⟩;have I:b.map rN=c.roles.map Au.name:=by rw[<-h,List.map_map];rfl
 have H:f.map oN=c.objs.map Aq.name:=by rw[<-k,List.map_map];rfl
 have G:d.map iN=c.ifs.map At.name:=by rw[<-j,List.map_map];rfl
 have J:g.map uN=c.uns.map Aw.name:=by rw[<-l,List.map_map];rfl
 unfold He SH NF;rw[I,H,G,J,h,k,j];have B:(b.all fun x=>x.1.inc.all fun y=>AS y (c.roles.map Au.name))=(c.roles.all fun r=>r.inc.all fun y=>AS y (c.roles.map Au.name)):=by rw[<-h,List.all_map];rfl
 have C:b.length=c.roles.length:=by rw[<-h];simp
 have D:(f.all fun x=>Gf (c.roles.map Au.name) (AB (c.objs.map Aq.name) (c.ifs.map At.name) (c.uns.map Aw.name)) c.ifs x.1)=c.objs.all (Gf (c.roles.map Au.name) (AB (c.objs.map Aq.name) (c.ifs.map At.name) (c.uns.map Aw.name)) c.ifs):=by rw[<-k,List.all_map];rfl
 have E:(d.all fun x=>Ee (c.roles.map Au.name) (AB (c.objs.map Aq.name) (c.ifs.map At.name) (c.uns.map Aw.name)) x.1.fields)=(c.ifs.all fun i=>Ee (c.roles.map Au.name) (AB (c.objs.map Aq.name) (c.ifs.map At.name) (c.uns.map Aw.name)) i.fields):=by rw[<-j,List.all_map];rfl
 have F:(g.all fun x=>El (AB (c.objs.map Aq.name) (c.ifs.map At.name) (c.uns.map Aw.name)) 2 x.1.members)=(c.uns.all fun u=>El (AB (c.objs.map Aq.name) (c.ifs.map At.name) (c.uns.map Aw.name)) 2 u.members):=by rw[<-l,List.all_map];rfl
 rw[B,C,D,E,F]
def Fj(x:yF):Nat:=if Ec (Ao (Ad x)).2=true then(if He (Ao (Ad x)).1=true then 0 else 2)else 1
def LD(s:St):Prop:=∀t∈s.getD [],Lm t
def Wf(b a:St):Prop:=∀{P:Tk->Prop},(∀t∈a.getD [],P t)->∀t∈b.getD [],P t
theorem Wf.refl(a:St):Wf a a:=fun b=>b
theorem Wf.trans{a b c:St}(d:Wf a b)(k:Wf b c):Wf a c:=fun x=>d (k x)
theorem Wf.none(a:St):Wf none a:=fun _ t b=>by simp at b
theorem CP(s:St):Wf (tl s) s:=by
 intro P a t b
 match s,a,b with
 |Option.none,a,b=>exact a t b
 |some [],a,b=>exact a t b
 |some (x::l),a,b=>exact a t (yA _ b)
theorem BK(s:St):Wf (nmT s) s:=by
 unfold nmT;split
 ·exact CP s
 ·exact Wf.none _
theorem Fb(s:St)(b:Bool):Wf (mustT s b) s:=by
 unfold mustT;split
 ·exact CP s
 ·exact Wf.none _
theorem Zp(s:St)(b:Bool):Wf (mayT s b) s:=by
 unfold mayT;split
 ·exact CP s
 ·exact Wf.refl _
theorem oJ(s:St)(a:LD s):(nm s).size<=4000:=by
 unfold nm;split
 ·match s,a with
  |Option.none,_=>decide
  |some [],_=>decide
  |some (t::l),a=>exact(a t (by simp)).2.2.1
 ·decide
theorem Zv(r:yF)(s:St):Wf (EU r s).2 s:=by
 unfold EU;refine Wf.trans (Fb _ _) (Wf.trans (BK _) (Wf.trans (Fb _ _) ?_));split
 ·exact Wf.refl _
 ·exact Wf.none _
theorem wI(a b:yF)(s:St):Wf (En a b s).2 s:=by
 unfold En;split
 ·exact Wf.trans (Zv _ _) (BK _)
 ·split
  ·exact Wf.trans (Zv _ _) (BK _)
  ·exact Wf.none _
theorem Zz:∀(f:Nat) (s:St),Wf (BO f s).2 s
 |0,s=>Wf.refl _
 |f+1,s=>by
  rw[BO];split
  ·exact Wf.trans (Zp _ _) (Wf.trans (Fb _ _) (Wf.trans (Zz f (tl s)) (CP s)))
  ·exact Wf.trans (Zp _ _) (BK s)
theorem wG(s:St):Wf (Ha s).2 s:=by
 unfold Ha;refine Wf.trans (Fb _ _) (Wf.trans (Fb _ _) ?_);unfold FH;split
 ·exact BK s
 ·split
  ·exact BK s
  ·exact Wf.none _
theorem wH(s:St):Wf (Em s).2 s:=by
 unfold Em;split
 ·exact Wf.trans (Fb _ _) (Wf.trans (wG _) (CP s))
 ·exact Wf.refl _
theorem Zw:∀(f:Nat) (s:St) (a b:yF),Wf (EV f s a b).2 s
 |0,s,a,b=>Wf.refl _
 |f+1,s,a,b=>by
  rw[EV];split
  ·exact Wf.trans (Zw f _ _ _) (Wf.trans (wI _ _ _) (CP s))
  ·exact Wf.refl _
theorem Qu(s:St):Wf (Dt s).2 (nmT s):=by
 unfold Dt;exact Wf.trans (Zw _ _ _ _) (Wf.trans (Zz _ _) (by unfold IG;exact Wf.trans (Fb _ _) (wH _)))
theorem Zr:∀(f:Nat) (s:St),Wf (Di f s).2 s
 |0,s=>Wf.refl _
 |f+1,s=>by
  rw[Di];split
  ·exact Wf.trans (Zr f _) (Wf.trans (Qu s) (BK s))
  ·exact Wf.refl _
theorem Zq(s:St):Wf (CL s).2 s:=by
 unfold CL;exact Wf.trans (Fb _ _) (Wf.trans (Zr _ _) (Wf.trans (Qu _) (Wf.trans (BK _) (Fb _ _))))
theorem Zo(word:yF)(part:St->List Cx×St)(b:∀s,Wf (part s).2 s):∀(f:Nat) (a:List (List Cx)) (s:St),Wf (IZ word part f a s).2 s
 |0,_,_=>Wf.refl _
 |f+1,a,s=>by
  rw[IZ];split
  ·exact Wf.trans (Zo word part b f _ _) (Wf.trans (b _) (CP s))
  ·exact Wf.refl _
theorem Qr(word:yF)(part:St->List Cx×St)(a:∀s,Wf (part s).2 s)(s:St):Wf (chain word part s).2 s:=
 Wf.trans (Zo word part a _ _ _) (a s)
theorem wM(s:St):Wf (Jg s) s:=by
 unfold Jg;split
 ·exact CP s
 ·unfold pVal
  split
  ·exact CP s
  ·split
   ·exact CP s
   ·split
    ·unfold Jo
     split
     ·exact CP s
     ·split
      ·exact CP s
      ·split
       ·exact CP s
       ·exact Wf.none _
    ·exact Wf.none _
theorem Tm:∀(f:Nat) (s:St),Wf (Hb f s).2 s
 |0,s=>Wf.refl _
 |f+1,s=>by
  rw[Ss];split
  ·exact Wf.trans (Fb _ _) (Wf.trans (Qr _ _ (Qr _ _ (Tm f)) _) (CP s))
  ·split
   ·exact Wf.trans (Tm f _) (BK s)
   ·split
    ·exact BK s
    ·split
     ·exact Wf.trans (BK _) (BK s)
     ·exact Wf.trans (wM _) (Wf.trans (Fb _ _) (BK s))
theorem Zu:∀(f:Nat) (s:St),Wf (DR f s).2 s
 |0,s=>Wf.refl _
 |f+1,s=>by
  rw[DR];split
  ·exact Wf.trans (Zu f _) (BK s)
  ·exact Wf.refl _
theorem wL(s:St):Wf (ED s).2 s:=by
 unfold ED;split
 ·unfold Me
  simp only[];split
  ·exact Wf.none _
  ·exact Wf.trans (Zu _ _) (Wf.trans (CP _) (BK s))
 ·exact BK s
theorem Zt:∀(f:Nat) (s:St),Wf (DX f s).2 s
 |0,s=>Wf.refl _
 |f+1,s=>by
  rw[DX];split
  ·exact Wf.trans (Zt f _) (BK s)
  ·exact Wf.refl _
theorem Zs(s:St):Wf (FI s).2 s:=by
 unfold FI;split
 ·exact Wf.trans (Zt _ _) (Wf.trans (BK _) (CP s))
 ·exact Wf.refl _
theorem Zy(s:St):Wf (Ih s).2 s:=by
 unfold Ih;split
 ·refine Wf.trans (Fb _ _) (Wf.trans (Qr _ _ (Qr _ _ (Tm _)) _) ?_)
  unfold JM;exact Wf.trans (Fb _ _) (Wf.trans (Fb _ _) (CP s))
 ·exact Wf.refl _
theorem wK(s:St):Wf (CB s).2 s:=by
 unfold CB;dsimp only;exact Wf.trans (Zq _) (Wf.trans (Zy _) (Wf.trans (Zs _) (BK s)))
theorem Zx:∀(f:Nat) (s:St),Wf (DY f s).2 s
 |0,s=>Wf.refl _
 |f+1,s=>by
  rw[DY];split
  ·exact Wf.trans (Zx f _) (Wf.trans (BK _) (CP s))
  ·exact Wf.refl _
theorem wJ(s:St):Wf (EW s).2 s:=by
 unfold EW;exact Wf.trans (Zx _ _) (Wf.trans (BK _) (Fb _ _))
theorem Qt(c:Be)(s:St):Wf (BA c s).2 (nmT s):=by
 unfold BA;split
 ·dsimp only
  exact wL _
 ·split
  ·dsimp only
   exact wK _
  ·split
   ·dsimp only
    exact Wf.trans (Zq _) (BK _)
   ·split
    ·dsimp only
     exact Wf.trans (wJ _) (BK _)
    ·exact Wf.none _
theorem Lj{α:Type}{l:List α}{x y:α}(a:y∈l++[x]):y∈l\/y=x:=by
 rcases yD.1 a with a|a
 ·exact Or.inl a
 ·exact Or.inr (by simpa using a)
def KQ(K:yF->Prop)(c:Be):Prop:=(∀x∈c.roles,K x.name/\∀y∈x.inc,K y)/\(∀x∈c.objs,K x.name/\(∀f∈x.fields,K f.name)/\∀y∈x.impl,K y)/\(∀x∈c.ifs,∀f∈x.fields,K f.name)/\(∀x∈c.uns,∀y∈x.members,K y)/\∀x∈c.names,K x
section
variable {P:Tk->Prop} {K:yF->Prop}
theorem TV(c:∀s:St,(∀t∈s.getD [],P t)->K (nm s)):∀(f:Nat) (s:St),(∀t∈s.getD [],P t)->∀y∈(DR f s).1,K y
 |0,_,_,y,a=>by simp[DR]at a
 |f+1,s,b,y,a=>by
  rw[DR]at a;split at a
  ·rcases yE.1 a with e|e
   ·subst e;exact c s b
   ·exact TV c f _ (BK s b) y e
  ·simp at a
theorem ZU(b:∀s:St,(∀t∈s.getD [],P t)->K (nm s))(s:St)(a:(∀t∈s.getD [],P t)):K (ED s).1.name/\∀y∈(ED s).1.inc,K y:=by
 unfold ED;split
 ·exact⟨b s a,TV b _ _ (CP _ (BK s a))⟩
 ·exact⟨b s a,fun y c=>by simp at c⟩
theorem TT(c:∀s:St,(∀t∈s.getD [],P t)->K (nm s)):∀(f:Nat) (s:St),(∀t∈s.getD [],P t)->∀y∈(Di f s).1,K y.name
 |0,_,_,y,a=>by simp[Di]at a
 |f+1,s,b,y,a=>by
  rw[Di]at a;split at a
  ·rcases yE.1 a with e|e
   ·subst e;exact c s b
   ·exact TT c f _ (Wf.trans (Qu s) (BK s) b) y e
  ·simp at a
theorem TS(b:∀s:St,(∀t∈s.getD [],P t)->K (nm s))(s:St)(d:(∀t∈s.getD [],P t)):∀y∈(CL s).1,K y.name:=by
 intro y c;unfold CL at c;have a:=Fb s (Ae s 14) d;rcases yE.1 c with e|e
 ·subst e;exact b _ a
 ·exact TT b _ _ (Wf.trans (Qu _) (BK _) a) y e
theorem TU(c:∀s:St,(∀t∈s.getD [],P t)->K (nm s)):∀(f:Nat) (s:St),(∀t∈s.getD [],P t)->∀y∈(DX f s).1,K y
 |0,_,_,y,a=>by simp[DX]at a
 |f+1,s,b,y,a=>by
  rw[DX]at a;split at a
  ·rcases yE.1 a with e|e
   ·subst e;exact c s b
   ·exact TU c f _ (BK s b) y e
  ·simp at a
theorem ZS(c:∀s:St,(∀t∈s.getD [],P t)->K (nm s))(s:St)(b:(∀t∈s.getD [],P t)):∀y∈(FI s).1,K y:=by
 intro y a;unfold FI at a;split at a
 ·rcases yE.1 a with e|e
  ·subst e;exact c _ (CP s b)
  ·exact TU c _ _ (BK _ (CP s b)) y e
 ·simp at a
theorem TY(c:∀s:St,(∀t∈s.getD [],P t)->K (nm s)):∀(f:Nat) (s:St),(∀t∈s.getD [],P t)->∀y∈(DY f s).1,K y
 |0,_,_,y,a=>by simp[DY]at a
 |f+1,s,b,y,a=>by
  rw[DY]at a;split at a
  ·rcases yE.1 a with e|e
   ·subst e;exact c _ (CP s b)
   ·exact TY c f _ (BK _ (CP s b)) y e
  ·simp at a
theorem ZT(b:∀s:St,(∀t∈s.getD [],P t)->K (nm s))(s:St)(d:(∀t∈s.getD [],P t)):∀y∈(EW s).1,K y:=by
 intro y c;unfold EW at c;have a:=Fb s (Ae s 10) d;rcases yE.1 c with e|e
 ·subst e;exact b _ a
 ·exact TY b _ _ (BK _ a) y e
theorem TQ(b:∀s:St,(∀t∈s.getD [],P t)->K (nm s))(c:Be)(s:St)(h:(∀t∈s.getD [],P t))(i:KQ K c):KQ K (BA c s).1:=by
 obtain⟨z1,z2,z3,z4,f⟩:=i;have d:=BK s h;have g:=BK _ d;unfold BA;split
 ·refine⟨fun x a=>?_,z2,z3,z4,f⟩
  rcases Lj a with e|e
  ·exact z1 x e
  ·subst e;exact ZU b _ d
 ·split
  ·refine⟨z1,fun x a=>?_,z3,z4,fun x a=>?_⟩
   ·rcases Lj a with e|e
    ·exact z2 x e
    ·subst e
     unfold CB;dsimp only;exact⟨b _ d,TS b _ (Zy _ (Zs _ g)),ZS b _ g⟩
   ·rcases Lj a with e|e
    ·exact f x e
    ·subst e;exact b _ d
  ·split
   ·refine⟨z1,z2,fun x a=>?_,z4,fun x a=>?_⟩
    ·rcases Lj a with e|e
     ·exact z3 x e
     ·subst e;exact TS b _ g
    ·rcases Lj a with e|e
     ·exact f x e
     ·subst e;exact b _ d
   ·split
    ·refine⟨z1,z2,z3,fun x a=>?_,fun x a=>?_⟩
     ·rcases Lj a with e|e
      ·exact z4 x e
      ·subst e;exact ZT b _ g
     ·rcases Lj a with e|e
      ·exact f x e
      ·subst e;exact b _ d
    ·exact⟨z1,z2,z3,z4,f⟩
theorem TW(d:∀s:St,(∀t∈s.getD [],P t)->K (nm s)):∀(f:Nat) (c:Be) (s:St),(∀t∈s.getD [],P t)->KQ K c->KQ K (EC f c s).1
 |0,_,_,_,a=>a
 |f+1,c,s,b,a=>by
  rw[EC];split
  ·exact a
  ·exact TW d f _ _ (Wf.trans (Qt c s) (BK s) b) (TQ d c s b a)
theorem ZR:KQ K Ga:=⟨fun _ a=>(List.not_mem_nil a).elim,fun _ a=>(List.not_mem_nil a).elim,fun _ a=>(List.not_mem_nil a).elim,fun _ a=>(List.not_mem_nil a).elim,fun _ a=>(List.not_mem_nil a).elim⟩
theorem TZ(b:∀s:St,(∀t∈s.getD [],P t)->K (nm s))(s:St)(a:∀t∈s.getD [],P t):KQ K (Ao s).1:=by
 unfold Ao;exact TW b _ _ _ (Wf.trans (Qt _ s) (BK s) a) (TQ b _ s a ZR)
end
theorem Ob(s:St)(a:LD s):Kx (Ao s).1:=by
 obtain⟨b,c,d,e,f⟩:=TZ (K:=fun y=>y.size<=4000) oJ s a;exact⟨b,fun x g=>(c x g).2,d,e,f⟩
theorem MH(x:yF):LD (Ad x):=by
 cases a:Ad x with
 |none=>intro t b;simp at b
 |some l=>exact(Nn x l a).1
inductive Reach{α:Type}(R:α->α->Prop):α->α->Prop
 |refl (a:α):Reach R a a
 |step {a b c:α}:Reach R a b->R b c->Reach R a c
inductive PD where
 |o (x:Aq)
 |i (x:At)
 |u (x:Aw)
inductive F2{α β:Type}(R:α->β->Prop):List α->List β->Prop
 |nil:F2 R [] []
 |cons {a:α} {b:β} {l:List α} {m:List β}:R a b->F2 R l m->F2 R (a::l) (b::m)
theorem dZ(s:St):Nr s=Ec s:=by
 match s with
 |none=>rfl
 |some []=>rfl
 |some (t::l)=>rfl
end Go.Proofs.YtogdodlibkckkaaGreatDoor
