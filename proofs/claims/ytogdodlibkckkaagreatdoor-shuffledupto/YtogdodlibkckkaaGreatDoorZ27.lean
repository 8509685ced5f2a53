import Derived.Test.YtogdodlibkckkaaGreatDoorZ26
namespace Go.Proofs.YtogdodlibkckkaaGreatDoor
set_option maxHeartbeats 20000000
set_option maxRecDepth 100000
open Go.RowKit Tryz
def Im(c:UInt8):Prop:=(32<=c/\c<=126)\/c=10\/c=9
def BL(l:List UInt8):Prop:=∀c∈l,Im c
def Fx(l:List UInt8):Prop:=∀c∈l,32<=c/\c<=126/\c≠34/\c≠92
theorem Kn:Fx (⟨#[]⟩:yF).data.toList:=fun c a=>by cases a
def Nl(t:Tk):Prop:=(t.k=1->Fx t.s.data.toList)/\(t.k=3->BL t.s.data.toList)
theorem wN{c:UInt8}(a:Ar AL c=true):32<=c/\c<=126/\c≠34/\c≠92:=by
 have:∀c∈AL.data.toList,32<=c/\c<=126/\c≠34/\c≠92:=by decide
 exact this c (by unfold Ar at a;simpa using a)
theorem uS(l:List UInt8)(o:yF):∀c∈l.take (Av l o),Ar o c=true:=by
 intro c a;unfold Av at a;have e:l.take (l.takeWhile (Ar o)).length=l.takeWhile (Ar o):=(List.prefix_iff_eq_take.1 (List.takeWhile_prefix (Ar o))).symm;rw[e]at a;exact List.all_takeWhile (p:=Ar o) (l:=l)|>fun b=>xP.1 b c a
theorem eS{d e:UInt8}(a:Fk d=some e):Im e:=by
 unfold Fk at a;repeat' split at a
 all_goals first|(cases a;done)|(cases a;unfold Im;decide)
theorem SY:∀(n:Nat) (l f:List UInt8) (m:Nat) (y:List UInt8×Nat),l.length<=n->BL f->Cm l f m=some y->BL y.1
 |n,[],f,m,y,_,g,b=>by cases b
 |0,c::r,f,m,y,h,g,b=>by simp at h
 |n+1,c::r,f,m,y,h,g,b=>by
  rw[Ky]at b;split at b
  ·cases b;exact g
  split at b
  ·cases b
  rename_i j;split at b
  ·cases r with
   |nil=>cases b
   |cons d q=>
    simp only at b;cases i:Fk d with
    |none=>rw[i]at b;cases b
    |some e=>
     rw[i]at b;refine SY n q _ _ y (by simp at h;omega) (fun c k=>?_) b;rcases yD.1 k with a|a
     ·exact g c a
     ·simp at a;subst a;exact eS i
  ·refine SY n r _ _ y (by simp at h;omega) (fun x p=>?_) b
   rcases yD.1 p with a|a
   ·exact g x a
   ·simp at a;subst a
    simp only[not_or,UInt8.not_lt]at j;exact .inl j
theorem kX(l:List UInt8)(x:Tk×Nat)(a:Bm l=some x):Nl x.1:=by
 unfold Bm at a;split at a
 ·cases a
 ·rename_i c r
  split at a
  ·cases a
   exact⟨fun _ b hb=>wN (uS _ _ b hb),fun e=>by cases e⟩
  split at a
  ·cases d:BJ (c::r)with
   |none=>rw[d]at a;cases a
   |some y=>rw[d]at a;cases a;exact⟨(fun e=>by cases e),(fun e=>by cases e)⟩
  split at a
  ·cases d:Cm r [] 1 with
   |none=>rw[d]at a;cases a
   |some y=>rw[d]at a;cases a;exact⟨(fun e=>by cases e),fun _=>SY _ _ _ _ _ (wQ _) (fun c f=>by cases f) d⟩
  split at a
  ·cases a;exact⟨(fun e=>by cases e),(fun e=>by cases e)⟩
  ·cases d:GJ Du.data.toList c 5 with
   |none=>rw[d]at a;cases a
   |some i=>rw[d]at a;cases a;exact⟨(fun _ b hb=>by cases hb),(fun _ b hb=>by cases hb)⟩
theorem Pm:∀(f:Nat) (l:List UInt8) (b:List Tk),Ez f l=some b->∀t∈b,Nl t
 |0,_,_,a=>by cases a
 |f+1,[],b,a=>by cases a;intro t d;cases d
 |f+1,c::r,b,a=>by
  rw[Ez]at a;split at a
  ·exact Pm f _ _ a
  split at a
  ·exact Pm f _ _ a
  ·cases g:Bm (c::r)with
   |none=>rw[g]at a;cases a
   |some x=>
    rw[g]at a;simp only at a;cases h:Ez f ((c::r).drop x.2)with
    |none=>rw[h]at a;cases a
    |some i=>
     rw[h]at a;cases a;intro t d;rcases yE.1 d with e|e
     ·rw[e];exact kX _ _ g
     ·exact Pm f _ _ h t e
theorem Rg(x:yF):∀t∈(Ad x).getD [],Nl t:=by
 cases a:Ad x with
 |none=>intro t c;cases c
 |some l=>
  unfold Ad at a;split at a
  ·cases a
  ·cases b:Bf x.data.toList with
   |none=>rw[b]at a;cases a
   |some d=>
    rw[b]at a;simp only at a;split at a
    ·cases a;exact Pm _ _ _ b
    ·cases a
open Go.Maps Tryz
def Fi(given:AN):List Eb->AN->Option AN
 |[],a=>some a
 |x::r,a=>if (BH a x.name).isSome=true then none else if Mz x=false then none else if Dy (Gj given x) x.scalar x.strict=false then none else Fi given r ((x.name,Gj given x)::a)
def GZ(Q:Qy):List Eb:=match Q.ops with
 |[]=>[]
 |o::_=>o.1
structure Ts(Q:Qy):Prop where
 v:∀x∈GZ Q,x.name.size<=4000/\x.dflt.1≠9
 a:∀P∈Q.parts,∀x∈P.sels,∀y∈x.args,y.2.1=9->y.2.2.2.size<=4000
 c:∀P∈Q.parts,∀x∈P.sels,∀y∈x.conds,y.2.1=9->y.2.2.2.size<=4000
theorem N9.nil:N9 []:=fun t v a=>by simp[BH]at a
theorem N9.cons{l:AN}{x:yF}{v:PV}(b:N9 l)(c:v.1≠9):N9 ((x,v)::l):=fun t u a=>by
 rw[BH]at a;split at a
 ·cases a;exact c
 ·exact b t u a
theorem vY{given:AN}{x:Eb}(a:N9 given)(b:x.dflt.1≠9):(Gj given x).1≠9:=by
 unfold Gj;cases e:BH given x.name with
 |none=>exact b
 |some v=>exact a _ _ e
theorem vK(x:yF)(v:PV)(l:AN):BH ((x,v)::l) x=some v:=by rw[BH,xH rfl]
theorem Bd.ft{l:AN}{B0:Nat}{w b:World}(a:Bd l B0 w b):FT B0 kB w b:=⟨a.os,a.tape,a.output,a.size,a.low,a.oth⟩
section
variable {w:World} {B0 q Mg ng:Nat} {Q:Qy} {ps:List Nat} {Dg:DataW Unit} {given:AN}
theorem ZC(z:Fe w B0 q Q ps)(bv:Q.ops≠[])(aQ:Ts Q)(br:BT w Mg ng Dg)(bs:VM Dg given)(bq:N9 given)(X:B0<=w.heap.size):
 Calls prog 44 #[.pointer (some ⟨q,0,none⟩),.map (some Mg)] w fun e w'=>e=.returned (.bool (Fi given (GZ Q) []).isSome)/\FT B0 kB w w'/\∀l,Fi given (GZ Q) []=some l->Fe w' B0 q (CS l Q) ps:=by
 obtain⟨db,da,dc,a9,N,U,V,ag,bg,ci⟩:=z.ex;obtain⟨R,ae,rfl⟩:∃R ae,a9=R::ae:=by
  cases a9 with
  |nil=>exact absurd V.symm bv
  |cons o r=>exact⟨o,r,rfl⟩
 obtain⟨b6,b7,rfl⟩:=An U;have ar:GZ Q=R.1.1:=by unfold GZ;rw[<-V];rfl
 obtain⟨ch,cP,cv,bm⟩:=Cw ag (fun _=>rfl) 0 R rfl;subst cv;have aq:=bg R yB;obtain⟨aA,aB,bE⟩:=An aq.v;obtain⟨⟨b,bH⟩,dd⟩:=R;simp only[]at bE ar;subst bE;have cI:w.cell? ⟨ch,0,none⟩=some (.slice aA b.length aB):=by simpa using bm 0 _ rfl
 have c8:=wW w _ cI;have cw:=aq.l;simp only[]at cw;have b3:=Aa aq.v;have a8:=Aa aQ.v;rw[ar]at a8;rw[ar];have a7:=Aa aQ;have bP:=Aa z;have bN:=Aa br;have bO:=Aa bs;have bM:=Aa bq;have bX:=Aa U;have b8:=Ac N;have bG:=Ab N;have cK:=Aa N;have cU:=z.l3;have cX:=WO;obtain⟨y,a4⟩:∃y,Hi (y=Fi given b []):=⟨_,Aa rfl⟩;rw[<-a4.o];have cW:0<((((b,bH),Value.slice aA b.length aB)::ae):List Hl).length:=by simp
 generalize ck:((((b,bH),Value.slice aA b.length aB)::ae):List Hl).length=cL at*;clear z N U V ag bg ci aq bm aQ br bs bq ar bv ck;go_enter func44,ntmps44;go_wp2_with fail;have bJ:=Aa (show yG w (w.alloc (.map #[] 0))from(wR _ _).alloc (wQ _) _);have bS:=Aa (show BT (w.alloc (.map #[] 0)) w.heap.size 0 (.map [])from World.ownsMap_made w _ _ _);generalize w.alloc (.map #[] 0)=cM at*;go_loopg [7,8,9,21] b.length (fun m v7 v8 v9 v21 wr=>∃(t:Nat) (d:AN) (D:DataW Unit) (n:Nat),v21=.int .i64 t/\t<=b.length/\b.length-t<=m/\yG w wr/\BT wr w.heap.size n D/\n<=t/\VM D d/\N9 d/\y=Fi given (b.drop t) d)
 case atStart=>exact⟨0,[],_,0,rfl,wZ _,wQ _,bJ.o,bS.o,wQ _,VM.nil,N9.nil,a4.o⟩
 case round=>
  obtain⟨t,d,D,n,rfl,c0,c2,hb,Z,cY,aa,aF,hrel⟩:=hrel;have aw:=Aa hb;have a1:=Aa Z;have a5:=Aa aa;have ad:=Aa aF;have I:=Aa hrel;have ak:=hb.size;have c7:=Z.lt;by_cases aN:t<b.length
  ·have L:=wS aN
   have aL:b.drop t=b[t]::b.drop (t+1):=xX aN;have aO:b[t]∈b:=List.getElem_mem aN;generalize b[t]=x at L aL aO;obtain⟨C,cQ,bB,F⟩:=Cw b3.o (fun _=>rfl) t x L;have b9:=(Value.slice.inj bB).1;subst b9;have aR:=a8.o x aO;rw[aL,Fi]at I;have ap:=Ic x.name aR.1;have am:=aa.has x.name;have ax:=Aa (fun(u:Value) (pl:List MemPlace) (cu:Fu u=some (D.atKey (kl x.name) (EP (0,0,⟨#[]⟩)),pl))=>aa.get cu);generalize IL d x.name=h at*;have bI:wr.cell? ⟨C,t*7,none⟩=some (.string x.name):=Ah hb (by simpa using F 0 _ rfl);have cC:wr.cell? ⟨C,t*7+1,none⟩=some (.string x.scalar):=Ah hb (F 1 _ rfl);have cD:wr.cell? ⟨C,t*7+2,none⟩=some (.bool x.strict):=Ah hb (F 2 _ rfl);have cE:wr.cell? ⟨C,t*7+3,none⟩=some (.bool x.has):=Ah hb (F 3 _ rfl);have cF:wr.cell? ⟨C,t*7+4,none⟩=some (.int .i64 x.dflt.1):=Ah hb (F 4 _ rfl);have cG:wr.cell? ⟨C,t*7+5,none⟩=some (.int .i64 x.dflt.2.1):=Ah hb (F 5 _ rfl);have cH:wr.cell? ⟨C,t*7+6,none⟩=some (.string x.dflt.2.2):=Ah hb (F 6 _ rfl);have co:C<wr.heap.size:=wW wr _ bI;have aI:BT (wr.alloc (.cells #[.string x.name,.string x.scalar,.bool x.strict,.bool x.has,.int .i64 x.dflt.1,.int .i64 x.dflt.2.1,.string x.dflt.2.2] 182)) w.heap.size n D:=Z.below (bA (wR _ _) _);clear F bB L aL aO hb Z aa aF hrel;obtain⟨aT,b1⟩:∃aT:Bool,Hi (aT=(BH d x.name).isSome):=⟨_,Aa rfl⟩;rw[<-b1.o]at am I;cases aT
   ·have ay:=Aa (show y=if Mz x=false then none else if Dy (Gj given x) x.scalar x.strict=false then none else Fi given (b.drop (t+1)) ((x.name,Gj given x)::d)from I.o)
    clear I;go_wp2_with (at_lookup;refine wpList_lookup_own_ok _ rfl _ _ 105 rfl 9 154 Ci underlying105 Fu (KG _) (EP (0,0,⟨#[]⟩)) [] (Jn _) w.heap.size n D rfl aI _ _ rfl ap ?_;intro au pl O;rw[am];have B:=ax.o au pl O;unfold Hd at B;subst B);have ah:((wr.alloc (.cells #[.string x.name,.string x.scalar,.bool x.strict,.bool x.has,.int .i64 x.dflt.1,.int .i64 x.dflt.2.1,.string x.dflt.2.2] 182)).alloc (.cells #[.int .i64 h.1,.int .i64 h.2.1,.string h.2.2] 154)).heap[wr.heap.size]?=some (.cells #[.string x.name,.string x.scalar,.bool x.strict,.bool x.has,.int .i64 x.dflt.1,.int .i64 x.dflt.2.1,.string x.dflt.2.2] 182 (0,0)):=LA wr _ _;have aG:yG w ((wr.alloc (.cells #[.string x.name,.string x.scalar,.bool x.strict,.bool x.has,.int .i64 x.dflt.1,.int .i64 x.dflt.2.1,.string x.dflt.2.2] 182)).alloc (.cells #[.int .i64 h.1,.int .i64 h.2.1,.string h.2.2] 154)):=(aw.o.alloc ak _).alloc (by simp;omega) _;have bh:BT ((wr.alloc (.cells #[.string x.name,.string x.scalar,.bool x.strict,.bool x.has,.int .i64 x.dflt.1,.int .i64 x.dflt.2.1,.string x.dflt.2.2] 182)).alloc (.cells #[.int .i64 h.1,.int .i64 h.2.1,.string h.2.2] 154)) w.heap.size n D:=a1.o.below (Jk wr _ _);generalize (wr.alloc (.cells #[.string x.name,.string x.scalar,.bool x.strict,.bool x.has,.int .i64 x.dflt.1,.int .i64 x.dflt.2.1,.string x.dflt.2.2] 182)).alloc (.cells #[.int .i64 h.1,.int .i64 h.2.1,.string h.2.2] 154)=cN at*;generalize cn:wr.heap.size=bF at*;have a3:=Aa (sY ah);generalize Mz x=cy at*;refine a3.o.mono ?_;rintro _ w3 ⟨rfl,af⟩;have ai:=(af.block _ (Ab ah)).trans ah;have az:=Aa ai;have M:=Aa (aG.trans (af.mono aG.size));have a2:=Aa (bh.below af);have c3:=Ac ai;have aS:=Ab ai;clear ah aG bh af a3 ai bI cC cD cE cF cG cH co aI cn;cases cy
    ·have H:=Aa (show y=none from ay.o)
     go_wp2;go_ret;rw[H.o];exact⟨rfl,FT.of_below M.o X,fun l e=>by cases e⟩
    ·have aZ:=Aa (show y=if Dy (Gj given x) x.scalar x.strict=false then none else Fi given (b.drop (t+1)) ((x.name,Gj given x)::d)from ay.o)
     have bC:=vY (x:=x) bM.o aR.2;have a6:=Aa (fun W (bj:yG w3 W)=>vZ ((bj.block _ aS).trans az.o) ((bN.o.below (M.o)).below bj) bO.o aR.1);generalize Gj given x=G at*;clear ay;go_upto_region 8 with fail;go_cut [] (fun wc=>∃ab,yG w wc/\BT wc w.heap.size (n+1) ab/\VM ab ((x.name,G)::d)/\wc.heap[bF]?=some (.cells #[.string x.name,.string x.scalar,.bool x.strict,.bool x.has,.int .i64 x.dflt.1,.int .i64 x.dflt.2.1,.string x.dflt.2.2] 182 (0,0)))
     case first=>
      go_region_with (go_at_call 71;refine(a6.o _ ?_).mono ?_;(first|exact(wR _ _).drew|exact wR _ _);rintro _ w5 ⟨rfl,s⟩;have S:yG w3 w5:=(by first|exact s|exact(wR w3.heap.size w3).drew.trans s);have aj:=(S.block _ aS).trans az.o;have cO:=Ac aj;have cx:=Ab aj;have bi:=a2.o.below S;obtain⟨w6,cr,bw,aP⟩:=World.ownsMap.store bi Ci underlying105 (by unfold maxLen;omega) ap (Jn G);unfold Hd at cr);all_goals(
       have J:=Aa (xZ (show yG w w6 from(M.o.trans (S.mono M.o.size)).grown aP.grown (wV M.o.size S.size) (fun j aM=>by cases aM;exact wQ _)) (xZ bw (xZ (a5.o.put x.name G) ((aP.grown.block bF cx (fun e=>by have:=xD e;omega)).trans aj))));clear aP bw bi aj S s;go_wp2;go_meet;exact⟨_,J.o.1,J.o.2.1,J.o.2.2.1,J.o.2.2.2⟩)
     case rest=>
     obtain⟨ab,bl,aJ,aK,aH⟩:=hcut;obtain⟨au,pl,cZ,O⟩:=World.ownsMap.lookup aJ Ci underlying105 (KG _) (Jn (0,0,⟨#[]⟩)) ap;have B:=aK.get O;rw[show IL ((x.name,G)::d) x.name=G from by unfold IL;rw[vK];rfl]at B;unfold Hd at B;subst B;have c4:=Ac aH;have c6:=Ab aH;have aU:=Aa bl;have bV:=Aa aJ;have b2:=Aa aK;have aX:=Aa (fun W=>Nt W G x.scalar x.strict);have bU:=Aa (ad.o.cons (x:=x.name) bC);generalize Dy G x.scalar x.strict=cb at*;clear bl aJ aK aH O a6 M a2 az c3 aS am ax bC;go_wp2_with fail;refine(aX.o _).mono ?_;rintro _ w5 ⟨rfl,s⟩;have aV:=Aa (aU.o.trans (s.mono aU.o.size));have bW:=Aa (bV.o.below s);clear s aX;cases cb
     ·have H:=Aa (show y=none from aZ.o)
      go_wp2;go_ret;rw[H.o];exact⟨rfl,FT.of_below aV.o X,fun l e=>by cases e⟩
     ·have H:=Aa (show y=Fi given (b.drop (t+1)) ((x.name,G)::d)from aZ.o)
      go_wp2;go_roundg (b.length-(t+1))
      case measure=>omega
      case rel=>exact⟨t+1,_,ab,n+1,by go_num,by omega,wQ _,aV.o,bW.o,by omega,b2.o,bU.o,H.o⟩
   ·have H:=Aa (show y=none from I.o)
    go_wp2_with (at_lookup;refine wpList_lookup_own_ok _ rfl _ _ 105 rfl 9 154 Ci underlying105 Fu (KG _) (EP (0,0,⟨#[]⟩)) [] (Jn _) w.heap.size n D rfl aI _ _ rfl ap ?_;intro au pl O;rw[am];have B:=ax.o au pl O;unfold Hd at B;subst B);go_ret;rw[H.o];refine⟨rfl,FT.of_below ?_ X,fun l e=>by cases e⟩;exact(aw.o.alloc ak _).alloc (by simp;omega) _
  ·have cs:t=b.length:=by omega
   subst cs;have b0:=Aa (show y=some d from by rw[I.o,List.drop_length];rfl);have A:=Aa (bP.o.below hb);have cS:=fun k=>(hb.cell (p:=⟨q,k,none⟩) bG).trans (b8 k);have c9:q<wr.heap.size:=xA bG ak;have bY:=Aa (AT bX.o hb);have cj:B0<=wr.heap.size:=wV X ak;obtain⟨av,rfl⟩:∃av:World,av=wr:=⟨_,rfl⟩;have bk:∀i,∃f:Nat×Option Addr×Nat×List SX,∀P,Q.parts[i]?=some P->ps[i]?=some f.1/\B0<=f.1/\MI av B0 f.1 i P.typ ps f.2.1 f.2.2.1 f.2.2.2/\f.2.2.2.map Prod.fst=P.sels:=fun i=>by
    cases E:Q.parts[i]? with
    |none=>exact⟨(0,none,0,[]),fun P z=>by cases z⟩
    |some P=>
     have bu:=wT E;have bz:=A.o.pt i P E;rw[Nat.zero_add]at bz;obtain⟨k,a,cap,b4,N,U,V,ag⟩:=bz.bp (a7.o.a P bu) (a7.o.c P bu);exact⟨(k,a,cap,b4),fun ba z=>by cases z;exact⟨N,U,V,ag⟩⟩
   obtain⟨K,bo⟩:=Classical.axiomOfChoice bk;have aY:=Aa bo;have bT:=Aa A.o.n;clear bk bo hb Z aa aF hrel I;go_wp2;go_loopg [11,58] ps.length (fun m v11 v58 wr=>∃(t:Nat),v58=.int .i64 t/\t<=ps.length/\ps.length-t<=m/\Bd d B0 av wr/\∀i,i<t->IT wr d (K i).2.2.2 (K i).2.2.2.length)
   case atStart=>exact⟨0,rfl,wZ _,wQ _,Bd.refl,fun i z=>absurd z (Nat.not_lt_zero _)⟩
   case round=>
    obtain⟨t,rfl,c1,c5,g,al⟩:=hrel;have bQ:=Aa g;have bL:=Aa al;by_cases cp:t<ps.length
    ·have ao:=wS cp
     generalize ps[t]=k at ao;have cq:t<Q.parts.length:=by have:=bT.o;omega
     have E:=wS cq;generalize Q.parts[t]=P at E;obtain⟨f1,aC,T,aD⟩:=aY.o t P E;have bc:(K t).1=k:=by rw[ao]at f1;exact(xD f1).symm
     have bx:wr.ownsRow B0 120 1 (.slice b6 ps.length b7) ps.length (ps.flatMap (fun k=>[pV k])):=by
      rw[Su];exact g.own bY.o (by decide)
     obtain⟨bf,cR,bD,bn⟩:=Cw bx (fun _=>rfl) t k ao;have ca:=(Value.slice.inj bD).1;subst ca;have cJ:wr.cell? ⟨bf,t,none⟩=some (.pointer (some ⟨k,0,none⟩)):=by simpa [pV]using bn 0 _ rfl
     have cV:bf<wr.heap.size:=wW wr _ cJ;rw[bc]at T;have aW:=Aa (bR T g ad.o (a1.o.bd g) a5.o (wV cj g.size));have a0:=Aa (fun(Y:World) (cl:Bd d B0 wr Y) (cm:IT Y d (K t).2.2.2 (K t).2.2.2.length)=>(show∀i,i<t+1->IT Y d (K i).2.2.2 (K i).2.2.2.length from fun i cT=>by
      by_cases e:i=t
      ·subst e;exact cm
      ·exact(bL.o i (by omega)).bd ad.o cl))
     clear bx bn bD f1 aC T aD bc E ao g al;go_wp2_with fail;refine aW.o.mono ?_;rintro _ w5 ⟨rfl,s,bb⟩;have J:=Aa (xZ (bQ.o.trans ad.o s) (a0.o w5 s bb));clear s bb aW a0;go_wp2;go_roundg (ps.length-(t+1))
     case measure=>omega
     case rel=>exact⟨t+1,by go_num,by omega,wQ _,J.o.1,J.o.2⟩
    ·have ct:t=ps.length:=by omega
     subst ct;have bZ:=Aa (show Fe wr B0 q (CS d Q) ps from by
      obtain⟨cA,cz,cB,b5,cc,cd,ce,cf,aE,cg⟩:=A.o.ex;refine⟨⟨cA,cz,cB,b5,g.at cc (by decide),g.own cd (by decide),ce,g.own cf (by decide),fun x L=>⟨g.own (aE x L).v (by decide),(aE x L).l,(aE x L).p⟩,g.own cg (by decide)⟩,A.o.ff,by rw[A.o.n];simp[CS],fun j ba aM=>?_,A.o.lq,A.o.l1,A.o.l2,A.o.l3⟩;have bt:(Q.parts.map (fun P=>(⟨P.typ,P.sels.map (Hu d)⟩:Ai)))[j]?=some ba:=aM;rw[xI]at bt;obtain⟨P,E,rfl⟩:=yC.1 bt;obtain⟨f1,aC,T,aD⟩:=aY.o j P E;rw[Nat.zero_add];exact T.bound f1 aC aD g (al j (FC f1)))
     have bK:=Aa (show FT B0 kB w wr from(FT.of_below aw.o X).trans g.ft);clear g al;go_wp2;go_ret;rw[b0.o];exact⟨rfl,bK.o,fun l e=>by cases e;exact bZ.o⟩
end
def TB(s:St):Prop:=∀t∈s.getD [],t.s.size<=4000/\(t.k=1->0<t.s.size/\Fx t.s.data.toList)
theorem TB.cut(x:yF):TB (Ad x):=fun t a=>by
 cases b:Ad x with
 |none=>rw[b]at a;simp at a
 |some f=>
  have e:=Rg x t a;rw[b]at a;have d:=((Nn x f b).1 t a).2.2;exact⟨d.1,fun c=>⟨d.2 c,e.1 c⟩⟩
theorem TB.none:TB none:=fun t a=>by simp at a
section
variable {s:St}
theorem TB.hd(a:TB s):(hd s).s.size<=4000:=by
 cases s with
 |none=>decide
 |some l=>cases l with
  |nil=>decide
  |cons t l=>exact(a t (by simp)).1
theorem TB.tl(a:TB s):TB (tl s):=by
 cases s with
 |none=>exact a
 |some l=>cases l with
  |nil=>exact a
  |cons t l=>exact fun u b=>a u (yA _ b)
theorem TB.mustT(a:TB s)(b:Bool):TB (mustT s b):=by
 cases b
 ·exact TB.none
 ·exact a.tl
theorem TB.mayT(a:TB s)(b:Bool):TB (mayT s b):=by
 cases b
 ·exact a
 ·exact a.tl
theorem TB.nm(a:TB s):(nm s).size<=4000:=by
 unfold Go.Proofs.YtogdodlibkckkaaGreatDoor.nm;split
 ·exact a.hd
 ·decide
theorem TB.nmK(a:TB s):Fx (Go.Proofs.YtogdodlibkckkaaGreatDoor.nm s).data.toList:=by
 unfold Go.Proofs.YtogdodlibkckkaaGreatDoor.nm;split
 ·rename_i b
  match s,a,b with
  |Option.none,_,_=>exact Kn
  |some [],_,_=>exact Kn
  |some (t::l),a,b=>exact((a t (by simp)).2 (by simpa [Ae,Go.Proofs.YtogdodlibkckkaaGreatDoor.hd]using b)).2
 ·exact Kn
theorem TB.nmT(a:TB s):TB (nmT s):=by
 unfold Go.Proofs.YtogdodlibkckkaaGreatDoor.nmT;split
 ·exact a.tl
 ·exact TB.none
theorem TB.nK(a:TB s)(k:Nat):TB (nK s k):=a.mustT _
theorem TB.nW(a:TB s)(x:yF):TB (nW s x):=a.mustT _
theorem TB.pVal(a:TB s):TB (pVal s):=by
 unfold Go.Proofs.YtogdodlibkckkaaGreatDoor.pVal;split
 ·exact a.tl
 split
 ·exact a.tl
 split
 ·unfold Jo
  (repeat' split)<;>first|exact a.tl|exact TB.none
 ·exact TB.none
theorem TB.valK(a:TB s):(valK s).2.2.size<=4000/\(valK s).1≠9:=by
 unfold Go.Proofs.YtogdodlibkckkaaGreatDoor.valK;split
 ·exact⟨(by show(⟨#[]⟩:yF).size<=4000;decide),(by show(1:Nat)≠9;decide)⟩
 split
 ·exact⟨a.hd,(by show(2:Nat)≠9;decide)⟩
 split
 ·refine⟨(by show(⟨#[]⟩:yF).size<=4000;decide),?_⟩
  show KE _≠9;unfold KE
  (repeat' split)<;>decide
 ·exact⟨by decide,by decide⟩
theorem TB.qVal(a:TB s):(qVal s).1.2.2.size<=4000/\TB (qVal s).2:=by
 unfold Go.Proofs.YtogdodlibkckkaaGreatDoor.qVal;split
 ·exact⟨a.tl.nm,a.tl.nmT⟩
 ·exact⟨a.valK.1,a.pVal⟩
theorem TB.qArg(a:TB s):(qArg s).1.2.2.2.size<=4000/\TB (qArg s).2:=((a.nmT).nK 9).qVal
theorem TB.qArgsF:∀(f:Nat) {s:St},TB s->(∀a∈(qArgsF f s).1,a.2.2.2.size<=4000)/\TB (qArgsF f s).2
 |0,s,c=>⟨fun a b=>by simp[Go.Proofs.YtogdodlibkckkaaGreatDoor.qArgsF]at b,c⟩
 |f+1,s,c=>by
  rw[Go.Proofs.YtogdodlibkckkaaGreatDoor.qArgsF];split
  ·have d:=c.qArg
   have g:=TB.qArgsF f d.2
   exact⟨fun a b=>by rcases yE.1 b with e|e;· rw[e];exact d.1
                     ·exact g.1 a e,g.2⟩
  ·exact⟨fun a b=>by simp at b,c⟩
theorem TB.qArgs(d:TB s):(∀a∈(qArgs s).1,a.2.2.2.size<=4000)/\TB (qArgs s).2:=by
 have b:=d.qArg;have c:=TB.qArgsF 801 b.2
 exact⟨fun a f=>by rcases yE.1 f with e|e;· rw[e];exact b.1
                   ·exact c.1 a e,c.2.nK 8⟩
theorem TB.qCond(b:TB s):(qCond s).1.2.2.2.size<=4000/\TB (qCond s).2:=by
 have c:TB (Lr s):=by
  unfold Lr
  (repeat' split)<;>first|exact b.nmT|exact TB.none
 have a:=(((c.nK 7).nW Na).nK 9).qVal;exact⟨a.1,a.2.nK 8⟩
theorem TB.qConds:∀(f:Nat) {s:St},TB s->(∀a∈(qConds f s).1,a.2.2.2.size<=4000)/\TB (qConds f s).2
 |0,s,c=>⟨fun a b=>by simp[Go.Proofs.YtogdodlibkckkaaGreatDoor.qConds]at b,c⟩
 |f+1,s,c=>by
  rw[Go.Proofs.YtogdodlibkckkaaGreatDoor.qConds];split
  ·have d:=c.tl.qCond
   have g:=TB.qConds f d.2
   exact⟨fun a b=>by rcases yE.1 b with e|e;· rw[e];exact d.1
                     ·exact g.1 a e,g.2⟩
  ·exact⟨fun a b=>by simp at b,c⟩
end
structure SZ(x:As):Prop where
 n:x.name.size<=4000
 a:∀y∈x.args,y.2.2.2.size<=4000
 c:∀y∈x.conds,y.2.2.2.size<=4000
 k:x.key.size<=4000
 y:Fx x.key.data.toList
def PZ(Ps:List Ai):Prop:=∀P∈Ps,∀x∈P.sels,SZ x
theorem PZ.nil:PZ []:=fun P a=>by cases a
theorem PZ.app{a b:List Ai}(c:PZ a)(k:PZ b):PZ (a++b):=fun P d=>by
 rcases yD.1 d with e|e
 ·exact c P e
 ·exact k P e
def QC(part:Nat->yF->St->List Ai×St):Prop:=∀n typ s,TB s->PZ (part n typ s).1/\TB (part n typ s).2
def QM(a:Nat->St->As×List Ai×St):Prop:=∀n s,TB s->SZ (a n s).1/\PZ (a n s).2.1/\TB (a n s).2.2
theorem rL{part:Nat->yF->St->List Ai×St}(h:QC part):QM (EE part):=by
 intro n s b;unfold EE;split
 ·split
  ·have c:=TB.qConds 801 b.tl.nmT
   exact⟨⟨b.tl.nm,fun y f=>by simp at f,c.1,(by show(⟨#[]⟩:yF).size<=4000;decide),Kn⟩,PZ.nil,c.2⟩
  ·unfold JN
   have e:TB (Gd (tl s)).2:=by
    unfold Gd;split
    ·exact b.tl.tl.nmT
    ·exact b.tl
   have c:=TB.qConds 801 e;have d:=h n (Gd (tl s)).1 _ c.2;exact⟨⟨(by show(⟨#[]⟩:yF).size<=4000;decide),fun y f=>by simp at f,c.1,(by show(⟨#[]⟩:yF).size<=4000;decide),Kn⟩,d.1,d.2⟩
 ·unfold IH
  have e:(Ex s).1.size<=4000/\TB (Ex s).2:=by
   unfold Ex;split
   ·exact⟨b.nmT.tl.nm,b.nmT.tl.nmT⟩
   ·exact⟨b.nm,b.nmT⟩
  have c:(∀a∈(GB (Ex s).2).1,a.2.2.2.size<=4000)/\TB (GB (Ex s).2).2:=by
   unfold GB;split
   ·exact e.2.tl.qArgs
   ·exact⟨fun a i=>by simp at i,e.2⟩
  have d:=TB.qConds 801 c.2;simp only[];split
  ·have g:=h n ⟨#[]⟩ _ d.2
   exact⟨⟨e.1,c.1,d.1,b.nm,b.nmK⟩,g.1,g.2⟩
  ·exact⟨⟨e.1,c.1,d.1,b.nm,b.nmK⟩,PZ.nil,d.2⟩
theorem Yg{c:Nat->St->As×List Ai×St}(hs:QM c):∀(f n:Nat) (s:St),TB s->(∀x∈(Cr c f n s).1,SZ x)/\PZ (Cr c f n s).2.1/\TB (Cr c f n s).2.2
 |0,n,s,b=>⟨fun x a=>by simp[Cr]at a,PZ.nil,b⟩
 |f+1,n,s,b=>by
  rw[Cr];split
  ·exact⟨fun x a=>by simp at a,PZ.nil,b⟩
  split
  ·exact⟨fun x a=>by simp at a,PZ.nil,b⟩
  ·have d:=hs n s b
   have g:=Yg hs f (n+(c n s).2.1.length) _ d.2.2
   exact⟨fun x a=>by rcases yE.1 a with e|e;· rw[e];exact d.1
                     ·exact g.1 x e,d.2.1.app g.2.1,g.2.2⟩
theorem rD{c:Nat->St->As×List Ai×St}(hs:QM c)(d:Nat):QC (fun n typ s=>FK c n d typ s):=by
 intro n typ s f;unfold FK;have g:TB (BB (d+1) s):=by
  unfold BB;split
  ·exact TB.none
  ·exact f
 have a:=hs (n+1) _ (g.nK 14);have b:=Yg hs 801 (n+1+(c (n+1) (nK (BB (d+1) s) 14)).2.1.length) _ a.2.2;refine⟨fun P h=>?_,b.2.2.nK 15⟩;rcases yE.1 h with e|e
 ·rw[e]
  intro x i;rcases yE.1 i with e|e
  ·rw[e];exact a.1
  ·exact b.1 x e
 ·exact(a.2.1.app b.2.1) P e
theorem Yc:∀(f d:Nat),QC (fun n typ s=>BD f n d typ s)
 |0,d=>fun n typ s b=>⟨fun P a=>by simp[BD]at a;rw[a];intro x c;simp at c,b⟩
 |f+1,d=>rD (rL (Yc f (d+1))) d
theorem Qb{s:St}(c:TB s):(CW s).1.name.size<=4000/\(CW s).1.dflt.1≠9/\TB (CW s).2:=by
 unfold CW;simp only[];have a:=c.nK 6;have d:=(a.nmT).nK 9;have e:=(d.nmT).mayT (Ae (nmT (nK (nmT (nK s 6)) 9)) 5);have b:=e.mayT (Ae (mayT (nmT (nK (nmT (nK s 6)) 9)) (Ae (nmT (nK (nmT (nK s 6)) 9)) 5)) 10);split
 ·exact⟨a.nm,b.valK.2,b.pVal⟩
 ·exact⟨a.nm,(by show(0:Nat)≠9;decide),b⟩
theorem Yj:∀(f:Nat) {s:St},TB s->(∀x∈(Dj f s).1,x.name.size<=4000/\x.dflt.1≠9)/\TB (Dj f s).2
 |0,s,c=>⟨fun a b=>by simp[Dj]at b,c⟩
 |f+1,s,c=>by
  rw[Dj];split
  ·have d:=Qb c
   have g:=Yj f d.2.2
   exact⟨fun a b=>by rcases yE.1 b with e|e;· rw[e];exact⟨d.1,d.2.1⟩
                     ·exact g.1 a e,g.2⟩
  ·exact⟨fun a b=>by simp at b,c⟩
theorem pM{s:St}(d:TB s):(∀x∈(GF s).1,x.name.size<=4000/\x.dflt.1≠9)/\TB (GF s).2:=by
 unfold GF;split
 ·have b:=Qb d.tl
  have f:=Yj 801 b.2.2
  exact⟨fun a c=>by rcases yE.1 c with e|e;· rw[e];exact⟨b.1,b.2.1⟩
                    ·exact f.1 a e,f.2.nK 8⟩
 ·exact⟨fun a c=>by simp at c,d⟩
structure QZ(Q:Qy):Prop where
 p:PZ Q.parts
 f:∀x∈Q.frags,x.1.size<=4000
 o:∀o∈Q.ops,∀x∈o.1,x.name.size<=4000/\x.dflt.1≠9
theorem Mx{q:Qy}{s:St}(a:QZ q)(g:TB s):QZ (Cl q s).1/\TB (Cl q s).2:=by
 have d:=Yc 11 0;unfold Cl;unfold II;split
 ·have b:=d q.parts.length ⟨#[]⟩ s g
  refine⟨⟨a.p.app b.1,a.f,fun o h=>?_⟩,b.2⟩;rcases yD.1 h with e|e
  ·exact a.o o e
  ·rw[List.mem_singleton]at e;rw[e];intro x i;simp at i
 split
 ·rw[My]
  have c:=pM (g.tl.mayT (Ae (tl s) 1));have b:=d q.parts.length ⟨#[]⟩ _ c.2;refine⟨⟨a.p.app b.1,a.f,fun o h=>?_⟩,b.2⟩;rcases yD.1 h with e|e
  ·exact a.o o e
  ·rw[List.mem_singleton]at e;rw[e];exact c.1
 split
 ·unfold EX II
  simp only[];have c:TB (EY (tl s)):=by
   unfold EY;split
   ·exact TB.none
   ·exact g.tl
  have b:=d q.parts.length (nm (nW (nmT (EY (tl s))) Dw)) _ ((c.nmT).nW Dw).nmT;refine⟨⟨a.p.app b.1,fun x i=>?_,a.o⟩,b.2⟩;rcases yD.1 i with e|e
  ·exact a.f x e
  ·rw[List.mem_singleton]at e;rw[e];exact c.nm
 ·exact⟨a,TB.none⟩
theorem XZ:∀(f:Nat) {q:Qy} {s:St},QZ q->TB s->QZ (FJ f q s).1/\TB (FJ f q s).2
 |0,q,s,b,a=>⟨b,a⟩
 |f+1,q,s,b,a=>by
  rw[FJ];split
  ·exact⟨b,a⟩
  ·have c:=Mx b a
   exact XZ f c.1 c.2
theorem SB(x:yF):QZ (Bk (Ad x)).1:=by
 have b:=Mx (q:=⟨[],[],[]⟩) ⟨PZ.nil,fun x a=>by simp at a,fun x a=>by simp at a⟩ (TB.cut x);exact(XZ 801 b.1 b.2).1
theorem QZ.nm{Q:Qy}(a:QZ Q):TC Q:=⟨a.f,fun P b x c=>(a.p P b x c).n⟩
theorem QZ.bd{Q:Qy}(d:QZ Q):Ts Q:=⟨fun x b=>by
 unfold GZ at b;split at b
 ·simp at b
 ·rename_i o r e;exact d.o o (by rw[e];exact yB) x b,fun P f x b y g _=>(d.p P f x b).a y g,fun P f x b y g _=>(d.p P f x b).c y g⟩
theorem QZ.link{Q:Qy}(b:QZ Q):QZ (BY Q):=⟨fun P g x i=>by
 obtain⟨d,h,rfl⟩:=List.mem_map.1 (show P∈Q.parts.map _ from g);obtain⟨e,j,rfl⟩:=List.mem_map.1 (show x∈d.sels.map (BZ Q.frags)from i);have k:=Po Q.frags e;have z:=b.p d h e j;exact⟨by rw[k.2.2.1];exact z.n,by rw[k.2.2.2.1];exact z.a,by rw[k.2.2.2.2];exact z.c,by rw[k.2.1];exact z.k,by rw[k.2.1];exact z.y⟩,b.f,b.o⟩
theorem Zg:∀(f:Nat) {l:AN} {s:St},N9 l->TB s->N9 (FQ f l s).1
 |0,l,s,a,_=>a
 |f+1,l,s,a,hs=>by
  rw[FQ];split
  ·have b:TB (JO l s):=by
    unfold JO;split
    ·exact TB.none
    ·exact hs.nK 3
   exact Zg f (a.cons (b.nK 9).valK.2) (b.nK 9).pVal
  ·exact a
theorem vQ(x:yF):N9 (FP (Ad x)).1:=by
 unfold FP;split
 ·exact N9.nil
 ·exact Zg 801 N9.nil ((TB.cut x).nK 14)
def Dx(objs:List Aq)(ifs:List At)(n:yF):Option (List Am):=
 if Af (objs.map Aq.name) n<0 then(if Af (ifs.map At.name) n<0 then none else ifs[(Af (ifs.map At.name) n).toNat]?.map At.fields)else objs[(Af (objs.map Aq.name) n).toNat]?.map Aq.fields
def ZD(w:World)(S:Nat)(v:Value):Option (List Am)->Prop
 |none=>v=.slice none 0 0
 |some fs=>DE w S v fs/\fs.length<=802
section
variable {w:World} {S:Nat} {vR vO vI vU vN:Value} {LR:List (Au×Value)} {LO:List AX} {LI:List (At×Value)} {LU:List (Aw×Value)} {names:List yF}
theorem YG(k:SV w S vR vO vI vU vN LR LO LI LU names)(n:yF):
 Calls prog 219 #[.pointer (some ⟨S,0,none⟩),.string n] w fun e w'=>∃v,e=.returned v/\yG w w'/\ZD w S v (Dx (LO.map Prod.fst) (LI.map Prod.fst) n):=by
 have J:(LO.map Prod.fst).map Aq.name=LO.map oN:=by rw[List.map_map];rfl
 have I:(LI.map Prod.fst).map At.name=LI.map iN:=by rw[List.map_map];rfl
 have b:=Aa (Dx.eq_1 (LO.map Prod.fst) (LI.map Prod.fst) n);rw[J,I]at b;generalize Dx (LO.map Prod.fst) (LI.map Prod.fst) n=U at*;have m:=Aa (NX w S vR vO vI vU vN LR LO LI LU names n k);have s:=Aa (fun W (P:yG w W)=>SL W S vR vO vI vU vN LR LO LI LU names n (k.below P));have R:=k.rowObject;have Q:=k.rowIface;have r:=Aa k;clear k J I;by_cases x:Af (LO.map oN) n<0
 ·rw[xH x]at b
  rw[(Hc R n).1 x]at m;by_cases t:Af (LI.map iN) n<0
  ·rw[xH t]at b
   rw[(Hc Q n).1 t]at s;go_enter func219,ntmps219;go_wp2_with fail;refine m.o.mono ?_;rintro _ w1 ⟨rfl,p⟩;have g:=Aa p;go_wp2_with fail;refine(s.o _ g.o).mono ?_;rintro _ w2 ⟨rfl,z⟩;go_wp2;go_ret;rw[b.o];exact⟨_,rfl,bT g.o z,rfl⟩
  ·rw[xG t]at b
   obtain⟨j,u,h,f,_,D⟩:=Cu iN LI n t;obtain⟨A,V,K,G⟩:=r.o.i.cell (fun _=>rfl) j u f;have u1:w.cell? ⟨A,j*2+1,none⟩=some u.2:=G 1 _ rfl;have d:=r.o.i.ok u (wT f);have y:=Aa (show AC vI 2 (Af (LI.map iN) n)=.pointer (some ⟨A,j*2,none⟩)from by rw[h,K];unfold AC;rw[xG (by omega)];rfl);rw[y.o]at s;rw[h,xS,xI,f]at b;have Y:=wW w _ u1;have l:=Aa (xZ d.1 d.2);obtain⟨N,O,q⟩:∃a c,u.2=.slice a u.1.fields.length c:=by
    obtain⟨M,C,E,_⟩:=d.1;obtain⟨a,c,e⟩:=An E;exact⟨a,c,by rw[e,<-C,xT]⟩
   rw[q]at u1 l;clear G K d f h D q;go_enter func219,ntmps219;go_wp2_with fail;refine m.o.mono ?_;rintro _ w1 ⟨rfl,p⟩;have g:=Aa p;go_wp2_with fail;refine(s.o _ g.o).mono ?_;rintro _ w2 ⟨rfl,z⟩;have F:=Aa (bT g.o z);have u2:=Ah F.o u1;have T:A<w2.heap.size:=wW w2 _ u2;go_wp2;go_ret;rw[b.o];exact⟨_,rfl,F.o,l.o⟩
 ·rw[xG x]at b
  obtain⟨j,u,h,f,_,D⟩:=Cu oN LO n x;obtain⟨B,X,L,H⟩:=r.o.o.cell (fun _=>rfl) j u f;have u1:w.cell? ⟨B,j*4+1,none⟩=some u.2.1:=H 1 _ rfl;have d:=r.o.o.ok u (wT f);have y:=Aa (show AC vO 4 (Af (LO.map oN) n)=.pointer (some ⟨B,j*4,none⟩)from by rw[h,L];unfold AC;rw[xG (by omega)];rfl);rw[y.o]at m;rw[h,xS,xI,f]at b;have Z:=wW w _ u1;have l:=Aa (xZ d.1 d.2.1);obtain⟨N,O,q⟩:∃a c,u.2.1=.slice a u.1.fields.length c:=by
   obtain⟨M,C,E,_⟩:=d.1;obtain⟨a,c,e⟩:=An E;exact⟨a,c,by rw[e,<-C,xT]⟩
  rw[q]at u1 l;clear H L d f h D q;go_enter func219,ntmps219;go_wp2_with fail;refine m.o.mono ?_;rintro _ w1 ⟨rfl,p⟩;have g:=Aa p;have u2:=Ah g.o u1;have T:B<w1.heap.size:=wW w1 _ u2;go_wp2;go_ret;rw[b.o];exact⟨_,rfl,g.o,l.o⟩
end
def Ei(a b:yF):yF:=if a=bE then b else a
theorem pN{w:World}{g:Nat}{a b:yF}(f:w.heap[g]?=some (.cells #[.string a,.string b] 9 (0,0))):Calls prog 211 #[.slice (some ⟨g,0,none⟩) 2 2] w fun e w'=>e=.returned (.string (Ei a b))/\w'=w:=by
 have c:=Ac f;have c0:w.cell? ⟨g,0,none⟩=some (.string a):=c 0;have c1:w.cell? ⟨g,1,none⟩=some (.string b):=c 1;have z:=Ab f;have j:=Aa (Ei.eq_1 a b);have n:=BX a [];have p:=BX b [];generalize Ei a b=q at*;clear f c;go_enter func211,ntmps211;go_wp2;go_loopg [5,8] 2 (fun m v5 v8 wr=>∃t:Nat,v8=.int .i64 t/\t<=2/\2-t<=m/\wr=w/\(1<=t->a=bE)/\(2<=t->b=bE))
 case atStart=>exact⟨0,rfl,by decide,by decide,rfl,fun f=>absurd f (by decide),fun f=>absurd f (by decide)⟩
 case round=>
  obtain⟨t,rfl,x,y,v,i,k⟩:=hrel;subst v;rcases(show t=0\/t=1\/t=2 by omega)with e|e|e
  ·subst e
   by_cases d:a=bE
   ·rw[xM (show a=Az []from d)]at n
    have s:(a.toList !=[])=false:=by rw[bne,n];rfl
    have l:=Aa d;clear i k d;go_wp2;go_roundg 1
    case measure=>omega
    case rel=>exact⟨1,by go_num,by decide,by decide,rfl,fun _=>l.o,fun f=>absurd f (by decide)⟩
   ·rw[wY (show¬a=Az []from d)]at n
    have s:(a.toList !=[])=true:=by rw[bne,n];rfl
    rw[xG d]at j;clear i k d;go_wp2;go_ret;rw[j.o];exact⟨rfl,rfl⟩
  ·subst e
   have d:=i (by decide);rw[xH d]at j;by_cases h:b=bE
   ·rw[xM (show b=Az []from h)]at p
    have u:(b.toList !=[])=false:=by rw[bne,p];rfl
    have l:=Aa (xZ d h);clear i k d h;go_wp2;go_roundg 0
    case measure=>omega
    case rel=>exact⟨2,by go_num,by decide,by decide,rfl,fun _=>l.o.1,fun _=>l.o.2⟩
   ·rw[wY (show¬b=Az []from h)]at p
    have u:(b.toList !=[])=true:=by rw[bne,p];rfl
    clear i k d h;go_wp2;go_ret;rw[j.o];exact⟨rfl,rfl⟩
  ·subst e
   have d:=i (by decide);have h:=k (by decide);rw[xH d]at j;have r:=Aa (show q=⟨#[]⟩from j.o.trans h);clear i k d h;go_wp2;go_ret;rw[r.o];exact⟨rfl,rfl⟩
def EQ(fs:List Am)(n:yF):Option Am:=if Af (fs.map Am.name) n<0 then none else fs[(Af (fs.map Am.name) n).toNat]?
def Iy(objs:List Aq)(ifs:List At)(typ n:yF):Option Am:=(Dx objs ifs typ).bind (fun fs=>EQ fs n)
def LH(w:World)(S:Nat)(q:Option Addr):Option Am->Prop
 |none=>q=none
 |some f=>∃g o u,q=some ⟨g,o,none⟩/\Cn w g o f u/\Bx w S u f.ty
theorem gH{w:World}{S:Nat}{v:Value}{fs:List Am}(c:DE w S v fs)(n:yF):∃q,AC v 6 (Af (fs.map Am.name) n)=.pointer q/\LH w S q (EQ fs n):=by
 obtain⟨p,d,i⟩:=c.row;unfold EQ;by_cases a:Af (fs.map Am.name) n<0
 ·rw[xH a]
  exact⟨none,by unfold AC;rw[xH a],rfl⟩
 ·rw[xG a]
  obtain⟨j,f,h,b,_,r⟩:=Cu Am.name fs n a;rw[h,xS,b];rw[<-d,xI]at b;obtain⟨y,m,rfl⟩:=yC.1 b;obtain⟨g,cap,l,e,k⟩:=i.fldAt j y m;exact⟨some ⟨g,j*6,none⟩,by rw[l];unfold AC;rw[xG (by omega)];rfl,⟨g,j*6,y.2,rfl,e,k⟩⟩
section
variable {w:World} {S:Nat} {vR vO vI vU vN:Value} {LR:List (Au×Value)} {LO:List AX} {LI:List (At×Value)} {LU:List (Aw×Value)} {names:List yF}
theorem tN(p:SV w S vR vO vI vU vN LR LO LI LU names)(typ n:yF):
 Calls prog 208 #[.pointer (some ⟨S,0,none⟩),.string typ,.string n] w fun e w'=>∃q,e=.returned (.pointer q)/\yG w w'/\LH w S q (Iy (LO.map Prod.fst) (LI.map Prod.fst) typ n):=by
 have l:=Aa (YG p typ);have m:=Aa (Iy.eq_1 (LO.map Prod.fst) (LI.map Prod.fst) typ n);generalize Iy (LO.map Prod.fst) (LI.map Prod.fst) typ n=k at*;generalize Dx (LO.map Prod.fst) (LI.map Prod.fst) typ=B at*;clear p;cases B with
 |none=>
  have f:=Aa (fun W=>Rs W (.slice none 0 0) n [] ⟨none,0,rfl,.inl rfl⟩ (by decide));have z:=Aa (show AC (.slice none 0 0) 6 (Af [] n)=.pointer none from rfl);rw[z.o]at f;have i:=Aa (show k=none from m.o);go_enter func208,ntmps208;go_wp2_with fail;refine l.o.mono ?_;rintro _ w1 ⟨v,rfl,b,g⟩;have d:v=.slice none 0 0:=g;subst d;have h:=Aa b;clear g b;go_wp2_with fail;refine(f.o _).mono ?_;rintro _ w2 ⟨rfl,j⟩;go_wp2;go_ret;rw[i.o];exact⟨none,rfl,bT h.o j,rfl⟩
 |some fs=>
  have i:=Aa (show k=EQ fs n from m.o);go_enter func208,ntmps208;go_wp2_with fail;refine l.o.mono ?_;rintro _ w1 ⟨v,rfl,b,g⟩;have d:DE w S v fs/\fs.length<=802:=g;obtain⟨q,t,s⟩:=gH d.1 n;obtain⟨A,r,u⟩:=d.1.row;have x:Dc w v 6 (fs.map Am.name):=by
   have:=u.rowed fN (fun _=>rfl) (fun _=>rfl)
   rwa [Ku A fs r]at this
  have f:=Aa (Rs w1 v n (fs.map Am.name) (x.below b) (by rw[xT];omega));rw[t]at f;obtain⟨a,c,rfl⟩:=d.1.slice;have h:=Aa b;have y:=Aa s;clear g d t x u r b s;go_wp2_with fail;refine f.o.mono ?_;rintro _ w2 ⟨rfl,j⟩;go_wp2;go_ret;rw[i.o];exact⟨q,rfl,bT h.o j,y.o⟩
end
def Is(f:Am):List Es->Bool
 |[]=>!decide (f.arg=De)
 |[a]=>(a.1.toList==f.arg.toList)&&Dy a.2 f.scalar (decide (f.arg=De))
 |_=>false
section
variable {w:World} {g o B:Nat} {f:Am} {u va:Value} {args:List Es}
theorem aK(i:Cn w g o f u)(c:w.ownsRow B 236 4 va args.length (args.flatMap aL))(m:args.length<=802):
 Calls prog 209 #[.pointer (some ⟨g,o,none⟩),va] w fun e w'=>e=.returned (.bool (Is f args))/\yG w w':=by
 obtain⟨J,K,rfl⟩:=An c;have v:=Aa (fun W (D:yG w W)=>Tc (i.below D));have x:=i.c3;have A:=i.c4;have P:=wW w _ x
 match args,c,m with
 |[],c,m=>
  show Calls _ _ _ _ (fun e w'=>e=.returned (.bool (!decide (f.arg=De)))/\_);generalize decide (f.arg=De)=l at*;clear c i;go_enter func209,ntmps209;go_wp2_with fail;refine(v.o _ (wR _ _)).mono ?_;rintro _ w1 ⟨rfl,t⟩;have t:=t.symm;subst t;go_wp2;go_ret;exact⟨rfl,wR _ _⟩
 |[a],c,m=>
  obtain⟨d,cap,s,k⟩:=Cw c (fun _=>rfl) 0 a rfl;have C:=(Value.slice.inj s).1;subst C;have y:w.cell? ⟨d,0,none⟩=some (.string a.1):=by simpa using k 0 _ rfl
  have E:w.cell? ⟨d,1,none⟩=some (.int .i64 a.2.1):=by simpa using k 1 _ rfl
  have F:w.cell? ⟨d,2,none⟩=some (.int .i64 a.2.2.1):=by simpa using k 2 _ rfl
  have G:w.cell? ⟨d,3,none⟩=some (.string a.2.2.2):=by simpa using k 3 _ rfl
  have O:=wW w _ y;show Calls _ _ _ _ (fun e w'=>e=.returned (.bool ((a.1.toList==f.arg.toList)&&Dy a.2 f.scalar (decide (f.arg=De))))/\_);have p:=Aa (fun W l=>Nt W a.2 f.scalar l);generalize decide (f.arg=De)=l at*;have p:=Aa (fun W=>p.o W l);generalize Dy a.2 f.scalar l=M at*;cases L:(a.1.toList==f.arg.toList)
  ·clear k s c i
   go_enter func209,ntmps209;go_wp2;go_quiet (fail);go_wp2;go_ret;exact⟨rfl,below_drewN (wR _ _) _⟩
  ·have q:=Aa (fun V (h:yG w V)=>xZ h (xZ (Ah h x) (xZ (Ah h A) (xZ (Ah h y) (xZ (Ah h E) (xZ (Ah h F) (Ah h G)))))))
   clear k s c i;go_enter func209,ntmps209;go_wp2;go_region_held3 (fun V=>yG w V/\V.cell? ⟨g,o+3,none⟩=some (.string f.arg)/\V.cell? ⟨g,o+4,none⟩=some (.string f.scalar)/\V.cell? ⟨d,0,none⟩=some (.string a.1)/\V.cell? ⟨d,1,none⟩=some (.int .i64 a.2.1)/\V.cell? ⟨d,2,none⟩=some (.int .i64 a.2.2.1)/\V.cell? ⟨d,3,none⟩=some (.string a.2.2.2))
    (first|exact q.o _ (wR _ _).drew|exact q.o _ (bT j z)|exact q.o _ j)
    (first|(go_at_call 143;obtain⟨j, -⟩:= ‹yG w _/\_›;refine(v.o _ j).mono ?_;rintro _ w2 ⟨rfl,rfl⟩)|(go_at_call 72;obtain⟨j, -⟩:= ‹yG w _/\_›;refine(p.o _).mono ?_;rintro _ w2 ⟨rfl,z⟩))
   all_goals(obtain⟨j, -⟩:= ‹yG w _/\_›;(try go_wp2_with fail);go_ret;exact⟨rfl,j⟩)
 |a::b::r,c,m=>
  show Calls _ _ _ _ (fun e w'=>e=.returned (.bool false)/\_);have N:2<=(a::b::r).length:=by simp
  generalize (a::b::r).length=n at*;have H:((n:Int)==0)=false:=by simp;omega
  have I:((n:Int)==1)=false:=by simp;omega
  clear c i;go_enter func209,ntmps209;go_wp2;go_ret;exact⟨rfl,wR _ _⟩
end
section
variable {w:World} {S:Nat} {vR vO vI vU vN:Value} {LR:List (Au×Value)} {LO:List AX} {LI:List (At×Value)} {LU:List (Aw×Value)} {names:List yF}
theorem pG(g:SV w S vR vO vI vU vN LR LO LI LU names)(x:AX)(L:x∈LO)(n:yF)(s B:Nat)(A:w.cell? ⟨s,B,none⟩=some (.string x.1.name))(M:w.cell? ⟨s,B+2,none⟩=some x.2.2.1):
 Calls prog 217 #[.pointer (some ⟨S,0,none⟩),.pointer (some ⟨s,B,none⟩),.string n] w fun e w'=>e=.returned (.bool (AW x.1 (LU.map Prod.fst) n))/\yG w w':=by
 obtain⟨_,_,t,O,_⟩:=g.o.ok x L;have d:=Aa (fun W (y:yG w W)=>NW n x.2.2.1 x.1.impl W (DU.of_own (AT t y)) (by omega));have k:=Aa (SO w S vR vO vI vU vN LR LO LI LU names n g);have p:=Aa (g.u);have H:=g.rowUnion;obtain⟨R,U,I⟩:=An t;rw[I]at M d;have Z:=wW w _ A;have b:=Aa (show AW x.1 (LU.map Prod.fst) n=((x.1.name.toList==n.toList)||(AS n x.1.impl||IK (LU.map Prod.fst) n x.1.name))from rfl);clear t O L g;generalize AW x.1 (LU.map Prod.fst) n=q at*;have f:=Aa (show IK (LU.map Prod.fst) n x.1.name=if Af (LU.map uN) n<0 then false else match (LU.map Prod.fst)[(Af (LU.map uN) n).toNat]? with|some u=>AS x.1.name u.members|none=>false from by
  unfold IK;rw[List.map_map];rfl)
 generalize IK (LU.map Prod.fst) n x.1.name=Q at*;cases E:(x.1.name.toList==n.toList)
 rotate_left
 ·rw[E]at b
  go_enter func217,ntmps217;go_wp2;go_ret;exact⟨Al b.o.symm,wR _ _⟩
 rw[E]at b;cases r:AS n x.1.impl
 rotate_left
 ·rw[r]at b d
  go_enter func217,ntmps217;go_wp2_with fail;refine(d.o _ (wR _ _)).mono ?_;rintro _ w' ⟨rfl,a⟩;have a:=a.symm;subst a;go_wp2;go_ret;exact⟨Al b.o.symm,wR _ _⟩
 rw[r]at b d;have m:=Aa (show q=Q from b.o);clear b r;by_cases h:Af (LU.map uN) n<0
 ·rw[xH h]at f
  rw[(Hc H n).1 h]at k;go_enter func217,ntmps217;go_wp2_with fail;refine(d.o _ (wR _ _)).mono ?_;rintro _ w' ⟨rfl,a⟩;have a:=a.symm;subst a;go_wp2_with fail;refine k.o.mono ?_;rintro _ w1 ⟨rfl,c⟩;have i:=Aa c;clear c;go_wp2;go_quiet (fail);go_wp2;go_ret;exact⟨Al (by rw[m.o,f.o]),below_drewN i.o _⟩
 ·rw[xG h]at f
  obtain⟨j,u,z,l,_,Y⟩:=Cu uN LU n h;obtain⟨F,X,K,G⟩:=p.o.cell (fun _=>rfl) j u l;have u1:w.cell? ⟨F,j*2+1,none⟩=some u.2:=G 1 _ rfl;obtain⟨v,P⟩:=p.o.ok u (wT l);obtain⟨T,V,J⟩:=An v;have C:=Aa (fun W (y:yG w W)=>NW x.1.name u.2 u.1.members W (DU.of_own (AT v y)) (by omega));rw[J]at u1 C;rw[z,xS,xI,l]at f;have D:=Aa (show AC vU 2 (Af (LU.map uN) n)=.pointer (some ⟨F,j*2,none⟩)from by rw[z,K];unfold AC;rw[xG (by omega)];rfl);rw[D.o]at k;have N:=Aa (show q=AS x.1.name u.1.members from by rw[m.o,f.o];rfl);generalize AS x.1.name u.1.members=ab at*;generalize x.1.name=aa at*;clear f m D z l K G v P p h H J I;go_enter func217,ntmps217;go_wp2_with fail;refine(d.o _ (wR _ _)).mono ?_;rintro _ w' ⟨rfl,a⟩;have a:=a.symm;subst a;go_wp2_with fail;refine k.o.mono ?_;rintro _ w1 ⟨rfl,c⟩;have A:=Ah c A;have u1:=Ah c u1;have i:=Aa c;clear c M;go_wp2;go_quiet ((go_at_call 148;refine Calls.quiet_of_same (C.o _ (below_drewN i.o _))));go_wp2;go_ret;exact⟨Al N.o.symm,below_drewN i.o _⟩
def IC(objs:List Aq)(uns:List Aw)(a b:yF):Bool:=objs.any (fun o=>AW o uns a&&AW o uns b)
theorem Xl(f:SV w S vR vO vI vU vN LR LO LI LU names)(x:AX)(j:x∈LO):∃a k c1 b l c2 q,x.2.1=.slice a k c1/\x.2.2.1=.slice b l c2/\x.2.2.2=.pointer q:=by
 obtain⟨g,_,h,_,i⟩:=f.o.ok x j;obtain⟨a,c1,c⟩:=g.slice;obtain⟨b,c2,d⟩:=An h;obtain⟨q,e⟩:=i.ptr;exact⟨_,_,_,_,_,_,_,c,d,e⟩
theorem dH(t:SV w S vR vO vI vU vN LR LO LI LU names)(x:AX)(v:x∈LO)(a b:yF)(A B C:Nat)(z1:w.cell? ⟨A,0,none⟩=some (.pointer (some ⟨S,0,none⟩)))(z2:w.cell? ⟨B,0,none⟩=some (.string a))(z3:w.cell? ⟨C,0,none⟩=some (.string b)):
 Calls prog 246 #[.agg #[.string x.1.name,x.2.1,x.2.2.1,x.2.2.2],.pointer (some ⟨A,0,none⟩),.pointer (some ⟨B,0,none⟩),.pointer (some ⟨C,0,none⟩)] w fun e w'=>e=.returned (.bool (AW x.1 (LU.map Prod.fst) a&&AW x.1 (LU.map Prod.fst) b))/\yG w w':=by
 obtain⟨d,i,c1,f,j,c2,q,p,r,s⟩:=Xl t x v;have k:=Aa (fun W (l:yG w W) (n:yF) (g:Nat) (D:W.heap[g]?=some (.cells #[.string x.1.name,x.2.1,x.2.2.1,x.2.2.2] 149 (0,0)))=>pG (t.below l) x v n g 0 (Ac D 0) (Ac D 2));rw[p,r,s]at k;rw[p,r,s];have J:=wW w _ z1;have K:=wW w _ z2;have L:=wW w _ z3;have c:=Aa (show yG w (w.alloc (.cells #[.string x.1.name,.slice d i c1,.slice f j c2,.pointer q] 149))from(wR _ _).alloc (wQ _) _);have m:=Aa (show(w.alloc (.cells #[.string x.1.name,.slice d i c1,.slice f j c2,.pointer q] 149)).heap[w.heap.size]?=some (.cells #[.string x.1.name,.slice d i c1,.slice f j c2,.pointer q] 149 (0,0))from wX w _);have y:=Aa (k.o _ c.o a w.heap.size m.o);have E:=Aa (fun W (l:Below (w.alloc (.cells #[.string x.1.name,.slice d i c1,.slice f j c2,.pointer q] 149)).heap.size (w.alloc (.cells #[.string x.1.name,.slice d i c1,.slice f j c2,.pointer q] 149)) W)=>k.o W (bT c.o l) b w.heap.size ((l.block _ (Ab m.o)).trans m.o));generalize AW x.1 (LU.map Prod.fst) a=G at*;generalize AW x.1 (LU.map Prod.fst) b=O at*;clear t p r s k v;cases G
 ·go_enter func246,ntmps246
  go_wp2_with fail;refine y.o.mono ?_;rintro _ w1 ⟨rfl,h⟩;go_wp2;go_ret;exact⟨rfl,bT c.o h⟩
 ·go_enter func246,ntmps246
  go_wp2_with fail;refine y.o.mono ?_;rintro _ w1 ⟨rfl,h⟩;have u:=bT c.o h;have H:=Ah u z1;have I:=Ah u z3;have M:=wW w1 _ H;have N:=wW w1 _ I;have z:=Aa h;clear u h;go_wp2_with fail;refine(E.o _ z.o).mono ?_;rintro _ w2 ⟨rfl,F⟩;go_wp2;go_ret;exact⟨Al (by simp),bT c.o (bT z.o F)⟩
end
section
variable {w:World} {S:Nat} {vR vO vI vU vN:Value} {LR:List (Au×Value)} {LO:List AX} {LI:List (At×Value)} {LU:List (Aw×Value)} {names:List yF}
theorem jC(d:SV w S vR vO vI vU vN LR LO LI LU names)(a b:yF)(t u v:Nat)(z1:w.cell? ⟨t,0,none⟩=some (.pointer (some ⟨S,0,none⟩)))(z2:w.cell? ⟨u,0,none⟩=some (.string a))(z3:w.cell? ⟨v,0,none⟩=some (.string b)):
 Calls prog 162 #[vO,.func (Fn.func 246) #[] #[.pointer (some ⟨t,0,none⟩),.pointer (some ⟨u,0,none⟩),.pointer (some ⟨v,0,none⟩)]] w fun e w'=>(∃r:Int,e=.returned (.int .i64 r)/\decide (0<=r)=IC (LO.map Prod.fst) (LU.map Prod.fst) a b)/\yG w w':=by
 obtain⟨T,U,O⟩:=An d.o.own;subst O;have E:=Aa d;have Y:=d.lo;have G:=Aa (fun W (n:yG w W) (x:AX) (h:x∈LO)=>dH (d.below n) x h a b t u v (Ah n z1) (Ah n z2) (Ah n z3));have H:=Aa (show IC (LO.map Prod.fst) (LU.map Prod.fst) a b=LO.any (fun x=>AW x.1 (LU.map Prod.fst) a&&AW x.1 (LU.map Prod.fst) b)from by unfold IC;rw[List.any_map];rfl);generalize IC (LO.map Prod.fst) (LU.map Prod.fst) a b=i at*;clear d z1 z2 z3;go_enter func162,ntmps162;go_wp2;go_loopg [5,8] LO.length (fun m v5 v8 wr=>∃k:Nat,v8=.int .i64 k/\k<=LO.length/\LO.length-k<=m/\yG w wr/\i=(LO.drop k).any (fun x=>AW x.1 (LU.map Prod.fst) a&&AW x.1 (LU.map Prod.fst) b))
 case atStart=>exact⟨0,rfl,wZ _,wQ _,wR _ _,H.o⟩
 case round=>
  obtain⟨k,rfl,V,Z,hb,hrel⟩:=hrel;have s:=Aa hb;have j:=Aa hrel;by_cases D:k<LO.length
  ·have h:=wS D
   have C:LO.drop k=LO[k]::LO.drop (k+1):=xX D;have p:LO[k]∈LO:=List.getElem_mem D;generalize LO[k]=x at h C p;obtain⟨g,cap,F,f⟩:=E.o.o.cell (fun _=>rfl) k x h;have L:=(Value.slice.inj F).1;subst L;obtain⟨I,P,c1,J,Q,c2,q,y,z,A⟩:=Xl E.o x p;have R:wr.cell? ⟨g,k*4,none⟩=some (.string x.1.name):=Ah hb (by simpa using f 0 _ rfl);have aa:wr.cell? ⟨g,k*4+1,none⟩=some (.slice I P c1):=Ah hb (by rw[<-y];exact f 1 _ rfl);have ab:wr.cell? ⟨g,k*4+2,none⟩=some (.slice J Q c2):=Ah hb (by rw[<-z];exact f 2 _ rfl);have ad:wr.cell? ⟨g,k*4+3,none⟩=some (.pointer q):=Ah hb (by rw[<-A];exact f 3 _ rfl);have X:=wW wr _ R;have B:=Aa (G.o wr hb x p);rw[y,z,A]at B;rw[C,List.any_cons]at j;generalize (AW x.1 (LU.map Prod.fst) a&&AW x.1 (LU.map Prod.fst) b)=K at*;clear f F h C p hb hrel y z A;cases K
   ·have c:=Aa (show i=(LO.drop (k+1)).any (fun x=>AW x.1 (LU.map Prod.fst) a&&AW x.1 (LU.map Prod.fst) b)from by rw[j.o,Bool.false_or])
    go_wp2_with fail;refine B.o.mono ?_;rintro _ w1 ⟨rfl,l⟩;have M:=bT s.o l;clear l;go_wp2;go_roundg (LO.length-(k+1))
    case measure=>omega
    case rel=>exact⟨k+1,by go_num,by omega,wQ _,M,c.o⟩
   ·have c:=Aa (show i=true from by rw[j.o,Bool.true_or])
    go_wp2_with fail;refine B.o.mono ?_;rintro _ w1 ⟨rfl,l⟩;go_wp2;go_ret;refine⟨⟨k,rfl,?_⟩,bT s.o l⟩;rw[c.o];exact xM (by omega)
  ·have N:k=LO.length:=by omega
   subst N;have c:=Aa (show i=false from by rw[j.o,List.drop_length];rfl);clear hb hrel;go_wp2;go_ret;refine⟨⟨-1,rfl,?_⟩,s.o⟩;rw[c.o];rfl
theorem nN(c:SV w S vR vO vI vU vN LR LO LI LU names)(a b:yF):
 Calls prog 212 #[.pointer (some ⟨S,0,none⟩),.string a,.string b] w fun e w'=>e=.returned (.bool (IC (LO.map Prod.fst) (LU.map Prod.fst) a b))/\yG w w':=by
 have x:=Ab c.sc;have k:=Aa (fun W (j:yG w W) d f g z1 z2 z3=>jC (c.below j) a b d f g z1 z2 z3);obtain⟨l,m,v⟩:=An c.o.own;subst v;have t:w.cell? ⟨S,1,none⟩=some (.slice l LO.length m):=Ac c.sc 1;generalize IC (LO.map Prod.fst) (LU.map Prod.fst) a b=p at*;have q:=Aa (fun W (j:yG w W) (d f g:Nat) (z1:W.cell? ⟨d,0,none⟩=some (.pointer (some ⟨S,0,none⟩))) (z2:W.cell? ⟨f,0,none⟩=some (.string a)) (z3:W.cell? ⟨g,0,none⟩=some (.string b))=>(show Calls prog 245 #[.slice l LO.length m,.func (Fn.func 246) #[] #[.pointer (some ⟨d,0,none⟩),.pointer (some ⟨f,0,none⟩),.pointer (some ⟨g,0,none⟩)]] W (fun e w'=>e=.returned (.bool p)/\yG W w')from by
  have u:=Aa (k.o W j d f g z1 z2 z3);clear z1 z2 z3;go_enter func245,ntmps245;go_wp2_with fail;refine u.o.mono ?_;rintro _ w1 ⟨⟨r,rfl,n⟩,i⟩;have s:=Aa n;clear n;go_wp2;go_ret;exact⟨Al (by rw[<-s.o]),i⟩))
 clear c k;have h:=Aa (show yG w (((w.alloc (.cells #[.pointer (some ⟨S,0,none⟩)] 64)).alloc (.cells #[.string a] 9)).alloc (.cells #[.string b] 9))from bA (bA (bA (wR _ _) _) _) _);have c3:=Ah h.o t;have y:S<w.heap.size+1:=by omega
 have z:S<w.heap.size+1+1:=by omega
 go_enter func212,ntmps212;go_wp2_with fail;refine(q.o _ h.o _ _ _ ?_ ?_ ?_).mono ?_
 ·rw[Ac ((AJ _ _ _ (by simp;omega)).trans (LA w _ _))];rfl
 ·rw[Ac ((AJ _ _ _ (by simp)).trans (MC w _ _))];rfl
 ·rw[Ac (MC (w.alloc (.cells #[.pointer (some ⟨S,0,none⟩)] 64)) (.cells #[.string a] 9) (.cells #[.string b] 9)|>fun c=>by simpa using c)];rfl
 rintro _ w1 ⟨rfl,i⟩;go_wp2;go_ret;exact⟨rfl,bT h.o i⟩
end
end Go.Proofs.YtogdodlibkckkaaGreatDoor
