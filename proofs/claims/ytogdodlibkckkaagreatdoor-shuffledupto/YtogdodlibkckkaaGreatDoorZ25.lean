import Derived.Test.YtogdodlibkckkaaGreatDoorZ17
import Derived.Test.YtogdodlibkckkaaGreatDoorZ20
import Derived.BigQuiet
namespace Go.Proofs.YtogdodlibkckkaaGreatDoor
set_option maxHeartbeats 20000000
set_option maxRecDepth 100000
open Go.RowKit Tryz
theorem infoSt:(prog.info? 290).map (fun i=>(i.zero,i.size,i.bytes))=some (some (.int .i64 0),1,8):=by kernel_rfl
theorem nG(n:Nat):madeCells #[.int .i64 0] n=(GK (List.replicate n 0)).toArray:=by
 apply Array.toList_inj.1;rw[toList_madeCells_one];simp[GK]
def KX(parts:List Ai)(n:Nat):List Db->List Nat->Bool
 |[],_=>false
 |x::l,st=>if (CK parts (n+1) x.2 st).1=true then true else KX parts n l (CK parts (n+1) x.2 st).2
def Nm(Q:Qy):Bool:=KX Q.parts Q.parts.length Q.frags (List.replicate Q.parts.length 0)
theorem Fe.below{d Y:World}{B0 q:Nat}{Q:Qy}{f:List Nat}(a:Fe d B0 q Q f)(hb:yG d Y):Fe Y B0 q Q f:=by
 obtain⟨r,m,s,g,e,h,i,j,b,k⟩:=a.ex;exact⟨⟨r,m,s,g,(hb.block _ (Ab e)).trans e,AT h hb,i,AT j hb,fun x c=>⟨AT (b x c).v hb,(b x c).l,(b x c).p⟩,AT k hb⟩,a.ff,a.n,a.pt.typ' (AA.below hb),a.lq,a.l1,a.l2,a.l3⟩
theorem cX{w:World}{B0 q:Nat}{Q:Qy}{a:List Nat}(b:Fe w B0 q Q a):
 Calls prog 69 #[.pointer (some ⟨q,0,none⟩)] w fun e w'=>e=.returned (.bool (Nm Q))/\yG w w':=by
 obtain⟨aB,aA,aC,ai,s,E,Y,Z,i,u⟩:=b.ex;obtain⟨al,ao,rfl⟩:=An E;obtain⟨ak,am,rfl⟩:=An u;have au:=b.l3;have ar:=b.l2;have aw:=run_make_row' (P:=prog) 230 290 (.int .i64 0) 8 underlying230 infoSt rfl .i64 .i64 a.length (by omega) (by omega);have aq:=Ac s;have az:=Ab s;have R:=Aa u;have O:=Aa b.ff;have S:=Aa b.pt;have N:=Aa (cJ (B0:=B0) b.n);have T:=Aa (show Nm Q=KX Q.parts a.length Q.frags (List.replicate a.length 0)from by unfold Nm;rw[b.n]);generalize Nm Q=c at*;clear b s E Y Z i u;go_enter func69,ntmps69;go_wp2_with fail;have F:yG w (w.alloc (.cells (madeCells #[.int .i64 0] a.length) 290)):=(wR _ _).alloc (wQ _) _;have G:(w.alloc (.cells (madeCells #[.int .i64 0] a.length) 290)).heap[w.heap.size]?=some (.cells (madeCells #[.int .i64 0] a.length) 290 (0,0)):=wX w _;rw[nG]at F G⊢;generalize w.alloc (.cells (GK (List.replicate a.length 0)).toArray 290)=aj at*;go_loopg [5,17] Q.frags.length (fun m v5 v17 wr=>∃(t:Nat) (st:List Nat),v17=.int .i64 t/\t<=Q.frags.length/\Q.frags.length-t<=m/\yG w wr/\wr.heap[w.heap.size]?=some (.cells (GK st).toArray 290 (0,0))/\st.length=a.length/\c=KX Q.parts a.length (Q.frags.drop t) st)
 case atStart=>exact⟨0,_,rfl,wZ _,wQ _,F,G,by simp,T.o⟩
 case round=>
  obtain⟨t,st,rfl,ax,ay,hb,j,aa,hrel⟩:=hrel;have f:=Aa hrel;have C:=Aa hb;have U:=Aa j;have af:=Ab j;by_cases z:t<Q.frags.length
  ·have B:=wS z
   have y:Q.frags.drop t=Q.frags[t]::Q.frags.drop (t+1):=xX z;have A:Q.frags[t]∈Q.frags:=List.getElem_mem z;generalize Q.frags[t]=x at B y A;obtain⟨g,ap,L,v⟩:=Cw R.o (fun _=>rfl) t x B;have X:=(Value.slice.inj L).1;subst X;have I:=O.o x A;obtain⟨h,K⟩:∃h,a[x.2]?=some h:=⟨_,wS I⟩;have ah:wr.cell? ⟨g,t*2,none⟩=some (.string x.1):=Ah hb (by simpa using v 0 _ rfl);have aD:wr.cell? ⟨g,t*2+1,none⟩=some (.pointer (some ⟨h,0,none⟩)):=Ah hb (by rw[v 1 _ rfl];simp[AO,K]);have av:g<wr.heap.size:=wW wr _ ah;have ad:Gk st<=st.length:=List.countP_le_length;have l:=Aa (fun W (H:yG wr W)=>N.o (a.length+1) W x.2 h w.heap.size st ((S.o.typ' (AA.below hb)).typ' (AA.below H)) K ((H.block _ af).trans U.o) aa (by omega));have ae:=Rc Q.parts (a.length+1) x.2 st;rw[y]at f;have d:=Aa (show c=if (CK Q.parts (a.length+1) x.2 st).1=true then true else KX Q.parts a.length (Q.frags.drop (t+1)) (CK Q.parts (a.length+1) x.2 st).2 from by rw[f.o,KX]);generalize CK Q.parts (a.length+1) x.2 st=r at*;obtain⟨ag,st2⟩:=r;simp only[]at l ae d;have J:=hb.size;clear v B y f I hrel j hb A L ad;go_wp2_with fail;have k:=Aa (show yG wr (wr.alloc (.cells #[.string x.1,.pointer (some ⟨h,0,none⟩)] 179))from(wR _ _).alloc (wQ _) _);refine(l.o _ k.o).mono ?_;rintro _ w5 ⟨rfl,i,M⟩;have V:=Aa i;have D:=Aa (show yG w w5 from(C.o.trans (k.o.mono J)).trans (M.below (wQ _) (wV J k.o.size)));clear i M l;cases ag
   ·have p:=Aa (show c=KX Q.parts a.length (Q.frags.drop (t+1)) st2 from d.o)
    go_wp2;go_roundg (Q.frags.length-(t+1))
    case measure=>omega
    case rel=>exact⟨t+1,st2,by go_num,by omega,wQ _,D.o,V.o,by omega,p.o⟩
   ·have p:=Aa (show c=true from d.o)
    go_wp2;go_ret;rw[p.o];exact⟨rfl,D.o⟩
  ·have ab:t=Q.frags.length:=by omega
   subst ab;have d:=Aa (show c=false from by rw[f.o,List.drop_length];rfl);clear j hb hrel f;go_wp2;go_ret;rw[d.o];exact⟨rfl,C.o⟩
def Iw(a:List Db)(n:yF):Option Nat:=if Af (a.map Prod.fst) n<0 then none else a[(Af (a.map Prod.fst) n).toNat]?.map Prod.snd
def BZ(a:List Db)(x:As):As:=if x.kind=1 then(match Iw a x.name with|some p=>⟨x.kind,x.key,x.name,x.args,x.conds,some p⟩|none=>x)else x
def tg(a:List Db)(pp:List Nat)(n:yF):Option Value:=(Iw a n).map (fun p=>AO pp (some p))
def In(t:yF->Option Value)(a b:Array Value):Prop:=b.size=a.size/\∀i,b[i]?=a[i]?\/∃j n u,i=j*6+5/\a[j*6]?=some (.int .i64 1)/\a[j*6+2]?=some (.string n)/\t n=some u/\b[i]?=some u
structure Lk(t:yF->Option Value)(B0:Nat)(w X:World):Prop where
 os:X.os=w.os
 tape:X.tape=w.tape
 output:X.output=w.output
 size:w.heap.size<=X.heap.size
 low:∀k,k<B0->X.heap[k]?=w.heap[k]?
 oth:∀(k:Nat) (o:Obj),w.heap[k]?=some o->(∀(cs:Array Value) (fr:Nat×Nat),o≠.cells cs 229 fr)->X.heap[k]?=some o
 sel:∀(k:Nat) (cur:Array Value) (fr:Nat×Nat),w.heap[k]?=some (.cells cur 229 fr)->∃cur',X.heap[k]?=some (.cells cur' 229 fr)/\In t cur cur'
section
variable {t:yF->Option Value} {B0:Nat} {w X Y:World}
theorem In.refl(a:Array Value):In t a a:=⟨rfl,fun _=>.inl rfl⟩
theorem In.fix{a b:Array Value}(c:In t a b)(i:Nat)(d:∀j,i≠j*6+5):b[i]?=a[i]?:=by
 rcases c.2 i with e|⟨j,n,u,e,_⟩
 ·exact e
 ·exact absurd e (d j)
theorem In.trans{a b c:Array Value}(d:In t a b)(k:In t b c):In t a c:=by
 refine⟨k.1.trans d.1,fun i=>?_⟩;rcases k.2 i with e|⟨j,n,u,e,g,h,l,m⟩
 ·rcases d.2 i with f|⟨j,n,u,f,f1,p,q,r⟩
  ·exact .inl (e.trans f)
  ·exact .inr ⟨j,n,u,f,f1,p,q,e.trans r⟩
 ·exact .inr ⟨j,n,u,e,(d.fix _ (fun s=>by omega)).symm.trans g,(d.fix _ (fun s=>by omega)).symm.trans h,l,m⟩
theorem Lk.refl:Lk t B0 w w:=⟨rfl,rfl,rfl,wQ _,fun _ _=>rfl,fun _ _ a _=>a,fun _ b _ a=>⟨b,a,In.refl _⟩⟩
theorem Lk.trans(a:Lk t B0 w X)(k:Lk t B0 X Y):Lk t B0 w Y:=
 ⟨k.os.trans a.os,k.tape.trans a.tape,k.output.trans a.output,wV a.size k.size,fun i b=>(k.low i b).trans (a.low i b),fun i o b d=>k.oth i o (a.oth i o b d) d,fun i e c b=>by
  obtain⟨c1,f,g⟩:=a.sel i e c b;obtain⟨c2,h,j⟩:=k.sel i c1 c f;exact⟨c2,h,g.trans j⟩⟩
theorem Lk.set{g j:Nat}{b:Array Value}{n:yF}{u:Value}(d:X.heap[g]?=some (.cells b 229 (0,0)))(r:B0<=g)(h:b[j*6]?=some (.int .i64 1))(l:b[j*6+2]?=some (.string n))(p:t n=some u):Lk t B0 X (X.setCell ⟨g,j*6+5,none⟩ u):=by
 refine⟨rfl,rfl,rfl,by simp[World.setCell],fun k a=>xC _ _ _ _ (show k≠g by omega),fun k o a m=>(xC _ _ _ _ (show k≠g from fun e=>by subst e;rw[d]at a;exact m _ _ (xD a).symm)).trans a,fun k c q a=>?_⟩;by_cases e:k=g
 ·subst e
  rw[d]at a;cases a;refine⟨_,AI d _ u,by simp,fun i=>?_⟩;by_cases f:i=j*6+5
  ·subst f
   by_cases hs:j*6+5<b.size
   ·exact .inr ⟨j,n,u,rfl,h,l,p,by rw[Array.getElem?_setIfInBounds];simp[hs]⟩
   ·exact .inl (by rw[Array.getElem?_setIfInBounds];simp[hs])
  ·exact .inl (by rw[Array.getElem?_setIfInBounds];simp[Ne.symm f])
 ·exact⟨c,(xC _ _ _ _ e).trans a,In.refl _⟩
theorem Lk.at{k:Nat}{cs:Array Value}{T:TypeId}{a:Nat×Nat}(b:Lk t B0 w X)(d:w.heap[k]?=some (.cells cs T a))(c:T≠229):X.heap[k]?=some (.cells cs T a):=b.oth k _ d (fun _ _ e=>c (Obj.cells.inj e).2.1)
theorem Lk.own{B n size:Nat}{e:TypeId}{v:Value}{xs:List Value}(a:Lk t B0 w X)(d:w.ownsRow B e size v n xs)(b:e≠229):X.ownsRow B e size v n xs:=ID d (fun _ _ _ c=>a.at c b)
theorem Lk.cell{g i:Nat}{a:Array Value}{b:Nat×Nat}(e:Lk t B0 w X)(d:w.heap[g]?=some (.cells a 229 b))(k:∀j,i≠j*6+5):X.cell? ⟨g,i,none⟩=w.cell? ⟨g,i,none⟩:=by
 obtain⟨c,f,h⟩:=e.sel g a b d;rw[Ac f,Ac d,h.fix i k]
theorem Lk.fin{g j:Nat}{b:Array Value}{h:Nat×Nat}{u:Value}{p:Int}{n:yF}(v:Lk t B0 w X)(m:w.heap[g]?=some (.cells b 229 h))(i:w.cell? ⟨g,j*6,none⟩=some (.int .i64 p))(k:w.cell? ⟨g,j*6+2,none⟩=some (.string n))(l:w.cell? ⟨g,j*6+5,none⟩=some u)(z:p=1->∀a,t n=some a->u=a):X.cell? ⟨g,j*6+5,none⟩=some u:=by
 obtain⟨c,x,y⟩:=v.sel g b h m;rw[Ac m]at i k l;rw[Ac x];rcases y.2 (j*6+5)with e|⟨A,B,a,e,d,f,q,r⟩
 ·exact e.trans l
 ·have s:A=j:=by omega
  subst s;rw[i]at d;rw[k]at f;cases d;cases f;rw[r,z rfl a q]
end
open Go.Maps Tryz
structure JR(w:World)(B0 k i:Nat)(P:Ai)(a:Option Addr)(cap:Nat):Prop where
 b:w.heap[k]?=some (.cells #[.string P.typ,.int .i64 i,.slice a P.sels.length cap] 223 (0,0))
 l:P.sels.length<=1000
 s:∀t x,P.sels[t]?=some x->∃g cur f,a=some ⟨g,0,none⟩/\w.heap[g]?=some (.cells cur 229 (0,0))/\B0<=g/\w.cell? ⟨g,t*6,none⟩=some (.int .i64 x.kind)/\w.cell? ⟨g,t*6+2,none⟩=some (.string x.name)/\w.cell? ⟨g,t*6+5,none⟩=some (.pointer f)
theorem JR.lk{t:yF->Option Value}{w h:World}{B0 k i cap:Nat}{P:Ai}{a:Option Addr}(p:JR w B0 k i P a cap)(d:Lk t B0 w h)(H:∀n u,t n=some u->∃f,u=.pointer f):JR h B0 k i P a cap:=by
 refine⟨d.at p.b (by decide),p.l,fun r x I=>?_⟩;obtain⟨g,y,f,e,c,C,D,E,F⟩:=p.s r x I;obtain⟨z,v,B⟩:=d.sel g y _ c;obtain⟨m,G⟩:∃m,h.cell? ⟨g,r*6+5,none⟩=some (.pointer m):=by
  rw[Ac v];rcases B.2 (r*6+5)with q|⟨j,n,u,q,_,_,J,K⟩
  ·exact⟨f,by rw[q,<-Ac c];exact F⟩
  ·obtain⟨A,rfl⟩:=H n u J
   exact⟨A,K⟩
 exact⟨g,z,m,e,v,C,(d.cell c (fun j=>by omega)).trans D,(d.cell c (fun j=>by omega)).trans E,G⟩
theorem Td{fr:List Db}{pp:List Nat}(n:yF)(u:Value)(a:tg fr pp n=some u):∃f,u=.pointer f:=by
 unfold tg at a;obtain⟨p,_,rfl⟩:=yC.1 a;exact⟨_,rfl⟩
def IS(b:World)(t:yF->Option Value)(P:Ai)(a:Option Addr)(m:Nat):Prop:=∀j x g,j<m->P.sels[j]?=some x->a=some ⟨g,0,none⟩->x.kind=1->∀u,t x.name=some u->b.cell? ⟨g,j*6+5,none⟩=some u
section
variable {w:World} {B0 q k i cap M nM cF:Nat} {P:Ai} {a aF:Option Addr} {vO vP:Value} {fr:List Db} {pp:List Nat} {D:DataW Unit}
theorem mB(N:JR w B0 k i P a cap)(ap:w.heap[q]?=some (.cells #[vO,.slice aF fr.length cF,vP] 112 (0,0)))(ad:w.ownsRow B0 179 2 (.slice aF fr.length cF) fr.length (fr.flatMap (Hy pp)))(aj:BS w M nM D)(ao:PM (fr.map Prod.fst) D)(ak:(fr.map Prod.fst).Nodup)(al:∀x∈P.sels,x.name.size<=4000):
 Calls prog 68 #[.pointer (some ⟨q,0,none⟩),.pointer (some ⟨k,0,none⟩),.map (some M)] w fun e w'=>e=.returned (.tuple #[])/\Lk (tg fr pp) B0 w w'/\IS w' (tg fr pp) P a P.sels.length:=by
 have az:=Aa N;have au:=Aa ad;have aw:=Aa aj;have X:=Aa ao;have ax:=Aa ak;have ay:=Aa al;have aA:=Aa ap;have n:=N.b;have a7:=Ac n;have bm:=Ab n;have bj:=N.l;clear N ad aj ao ak al ap n;go_enter func68,ntmps68;go_wp2;go_loopg [6,7,8,9,15] P.sels.length (fun m v6 v7 v8 v9 v15 wr=>∃(t:Nat),v15=.int .i64 t/\t<=P.sels.length/\P.sels.length-t<=m/\Lk (tg fr pp) B0 w wr/\IS wr (tg fr pp) P a t)
 case atStart=>exact⟨0,rfl,wZ _,wQ _,Lk.refl,fun j x g E=>absurd E (Nat.not_lt_zero _)⟩
 case round=>
  obtain⟨t,rfl,bk,bl,h,hd⟩:=hrel;have S:=Aa h;have W:=Aa hd;by_cases ai:t<P.sels.length
  ·have A:=wS ai
   have F:P.sels[t]∈P.sels:=List.getElem_mem ai;generalize P.sels[t]=x at A F;have B:=az.o.lk h Td;obtain⟨g,I,f,rfl,d,aO,a1,a2,ar⟩:=B.s t x A;have n:=B.b;have a8:=Ac n;have bn:=Ab n;have bi:=Ab d;have bc:=Ak d;have ag:=Ic x.name (ay.o x F);have z:=Aa (fun(Y:World) (aP:Lk (tg fr pp) B0 wr Y) (aN:x.kind=1->∀u,tg fr pp x.name=some u->Y.cell? ⟨g,t*6+5,none⟩=some u)=>(show IS Y (tg fr pp) P (some ⟨g,0,none⟩) (t+1)from fun j y aL E R aH ah u v=>by
    have aI:g=aL:=by cases aH;rfl
    subst aI;by_cases aJ:j=t
    ·subst aJ
     rw[A]at R;cases R;exact aN ah u v
    ·obtain⟨bd,ba,bb,aE,aQ,_,a3,a5,_⟩:=B.s j y R
     cases aE;exact aP.fin aQ a3 a5 (W.o j y g (by omega) R rfl ah u v) (fun _ bp aV=>xD (v.symm.trans aV))))
   by_cases aS:x.kind=1
   ·have aC:((x.kind:Int)!=1)=false:=by simp;omega
    have aD:(x.kind:Int)=1:=by omega
    have am:=(show BS wr M nM D from by
     obtain⟨es,clock,aX,aY,aZ,a0⟩:=aw.o;exact⟨es,clock,h.oth _ _ aX (fun _ _ e=>by cases e),aY,aZ,a0⟩)
    have L:=X.o.hasP x.name;have Q:tg fr pp x.name=(Iw fr x.name).map (fun p=>AO pp (some p)):=rfl;by_cases G:Af (fr.map Prod.fst) x.name<0
    ·rw[show AS x.name (fr.map Prod.fst)=false from NM _ _ (fun e=>by have:=Mc _ _ e;omega)]at L
     have aB:=Aa (show tg fr pp x.name=none from by rw[Q];unfold Iw;rw[xH G];rfl);have C:=Aa (z.o wr Lk.refl (fun _ u v=>by rw[aB.o]at v;cases v));clear Q G hd h B n d A F z;go_wp2_with (at_lookup;refine wpList_lookup_own_ok_int _ rfl _ _ 65 rfl 9 3 .i64 Ci underlying65 underlying3 (GL _) M _ D rfl am _ _ rfl ag ?_;intro c K aW;rw[L]);go_roundg (P.sels.length-(t+1))
     case measure=>omega
     case rel=>exact⟨t+1,by go_num,by omega,wQ _,S.o,C.o⟩
    ·obtain⟨j,r,E,O,hid,bg⟩:=Cu Prod.fst fr x.name G
     have T:x.name∈fr.map Prod.fst:=List.mem_map.2 ⟨r,wT O,hid⟩;rw[(FD x.name _).2 T]at L;obtain⟨H,af,aR⟩:=X.o.val x.name T;have aK:H=j:=by have:=Ma _ x.name H ax.o af;omega
     subst aK;obtain⟨aa,a6,aq,ab⟩:=Cw (h.own au.o (by decide)) (fun _=>rfl) H r O;have aG:=(Value.slice.inj aq).1;subst aG;obtain⟨J,ae⟩:∃J,AO pp (some r.2)=.pointer J:=⟨_,rfl⟩;have a4:wr.cell? ⟨aa,H*2+1,none⟩=some (.pointer J):=by rw[ab 1 _ rfl,ae]
     have bh:aa<wr.heap.size:=wW wr _ a4;have U:=h.at aA.o (by decide);have a9:=Ac U;have bo:=Ab U;have Z:=Aa (show tg fr pp x.name=some (.pointer J)from by rw[Q];unfold Iw;rw[xG G,E];simp[O,ae]);have c0:I[t*6]?=some (.int .i64 1):=by rw[<-Ac d,a1,aD]
     have c2:I[t*6+2]?=some (.string x.name):=by rw[<-Ac d,a2]
     have V:=Lk.set (B0:=B0) (t:=tg fr pp) (j:=t) d aO c0 c2 Z.o;have av:=Aa (h.trans V);have aT:t*6+5<I.size:=by
      rcases Nat.lt_or_ge (t*6+5) I.size with a|a
      ·exact a
      ·rw[Ac d,Array.getElem?_eq_none a]at ar;cases ar
     have C:=Aa (z.o _ V (fun _ u v=>by
      rw[Z.o]at v;cases v;rw[Ac (AI d _ _),Array.getElem?_setIfInBounds];simp[aT]))
     have bf:((H:Nat):Int)<fr.length:=by omega
     clear Q G hd h B n d A F z T af E O hid ab aq U V c0 c2;go_wp2_with (at_lookup;refine wpList_lookup_own_ok_int _ rfl _ _ 65 rfl 9 3 .i64 Ci underlying65 underlying3 (GL _) M _ D rfl am _ _ rfl ag ?_;intro c K aW;rw[L];rw[aR]at K;simp only[DataW.lit.injEq,Lit.int.injEq,true_and]at K;subst K);go_roundg (P.sels.length-(t+1))
     case measure=>omega
     case rel=>exact⟨t+1,by go_num,by omega,wQ _,av.o,C.o⟩
   ·have aC:((x.kind:Int)!=1)=true:=by simp;omega
    have C:=Aa (z.o wr Lk.refl (fun aM=>absurd aM aS));clear hd h B n d A F z;go_wp2;go_roundg (P.sels.length-(t+1))
    case measure=>omega
    case rel=>exact⟨t+1,by go_num,by omega,wQ _,S.o,C.o⟩
  ·have aU:t=P.sels.length:=by omega
   subst aU;clear hd h;go_wp2;go_end0;exact⟨rfl,S.o,W.o⟩
end
theorem Rv{β:Type}{flat:β->List Value}{size:Nat}(b:∀x,(flat x).length=size):∀a:List β,(a.flatMap flat).length=a.length*size
 |[]=>by simp
 |x::l=>by rw[List.flatMap_cons,xJ,b,Rv b l,xU,Nat.succ_mul,Nat.add_comm]
theorem Sp{β:Type}{d:World}{B size cap g:Nat}{e:TypeId}{b:Array Value}{a:List β}{flat:β->List Value}(c:∀x,(flat x).length=size)(f:0<size)(s:B<=g)(w:d.heap[g]?=some (.cells b e (0,0)))(z:a.length<=cap)(v:cap<=maxLen)(hs:b.size=cap*size)(t:∀j x k u,a[j]?=some x->(flat x)[k]?=some u->b[j*size+k]?=some u):d.ownsRow B e size (.slice (some ⟨g,0,none⟩) a.length cap) a.length (a.flatMap flat):=by
 refine⟨Rv c a,Or.inr ⟨g,cap,b,rfl,s,w,z,v,hs,?_⟩⟩;apply List.ext_getElem?;intro i;rw[List.getElem?_take];split
 ·rename_i m
  have y:i/size<a.length:=(Nat.div_lt_iff_lt_mul f).2 m;have n:i%size<size:=Nat.mod_lt _ f;have r:i/size*size+i%size=i:=by rw[Nat.mul_comm];exact Nat.div_add_mod i size
  have q:=wS y;have h:=Ru flat size c a (i/size) (i%size) _ q n;have p:(flat a[i/size])[i%size]?=some ((flat a[i/size])[i%size]'(by rw[c];exact n)):=wS _;have l:=t _ _ _ _ q p;rw[r]at h l;rw[h,p];simpa using l
 ·rename_i m
  rw[List.getElem?_eq_none (by rw[Rv c];omega)]
def BY(Q:Qy):Qy:=⟨Q.ops,Q.frags,Q.parts.map (fun P=>⟨P.typ,P.sels.map (BZ Q.frags)⟩)⟩
theorem fH{b:List Db}{n:yF}{p m:Nat}(a:Iw b n=some p)(c:∀x∈b,x.2<m):p<m:=by
 unfold Iw at a;split at a
 ·cases a
 ·obtain⟨y,d,rfl⟩:=yC.1 a
  exact c y (wT d)
theorem Po(a:List Db)(x:As):(BZ a x).kind=x.kind/\(BZ a x).key=x.key/\(BZ a x).name=x.name/\(BZ a x).args=x.args/\(BZ a x).conds=x.conds:=by
 unfold BZ;split
 ·split<;>exact⟨rfl,rfl,rfl,rfl,rfl⟩
 ·exact⟨rfl,rfl,rfl,rfl,rfl⟩
theorem mH(b:List Db)(x:As)(m:Nat)(c:∀i,x.part=some i->i<m)(d:∀y∈b,y.2<m):∀i,(BZ b x).part=some i->i<m:=by
 intro i a;unfold BZ at a;split at a
 ·split at a
  ·rename_i p e;cases a;exact fH e d
  ·exact c i a
 ·exact c i a
theorem CQ.linked{W s:World}{B0 i:Nat}{pp:List Nat}{P:Ai}{b:List Db}(F:CQ W B0 pp i P)(C:Lk (tg b pp) B0 W s)(ai:∀x∈b,x.2<pp.length)(hd:∀k a cap,pp[i]?=some k->W.heap[k]?=some (.cells #[.string P.typ,.int .i64 i,.slice a P.sels.length cap] 223 (0,0))->IS s (tg b pp) P a P.sels.length):CQ s B0 pp i ⟨P.typ,P.sels.map (BZ b)⟩:=by
 obtain⟨k,ar,v,K,L,ab,G,M,ad,ae⟩:=F.ex;have am:P.sels.length=v.length:=by rw[<-G,xT]
 have ap:∀y∈v,DF s B0 pp.length (BZ b y.1,y.2.1,y.2.2):=fun y t=>by
  have m:=Po b y.1;have o:=ae y t;exact⟨by show s.ownsRow _ _ _ _ (BZ b y.1).args.length ((BZ b y.1).args.flatMap aL);rw[m.2.2.2.1];exact C.own o.a (by decide),by show s.ownsRow _ _ _ _ (BZ b y.1).conds.length ((BZ b y.1).conds.flatMap cL);rw[m.2.2.2.2];exact C.own o.c (by decide),by show(BZ b y.1).args.length<=802;rw[m.2.2.2.1];exact o.al,by show(BZ b y.1).conds.length<=802;rw[m.2.2.2.2];exact o.cl,mH b y.1 _ o.p ai⟩
 refine⟨k,ar,v.map (fun y=>(BZ b y.1,y.2.1,y.2.2)),K,C.at L (by decide),ab,?_,?_,by simpa using ad,fun x D=>?_⟩
 ·rw[List.map_map]
  show v.map (fun y=>BZ b y.1)=P.sels.map (BZ b);rw[<-G,List.map_map];rfl
 ·rcases M.2 with⟨e,V⟩|⟨g,cap,I,H,aj,O,ao,ag,hs,aw⟩
  ·have:v=[]:=xE V
   subst this;rw[e];exact xF _ _ _ _
  ·obtain⟨U,J,h⟩:=C.sel g I _ O
   have ah:=hd k (some ⟨g,0,none⟩) cap K (by rw[am,<-H];exact L);rw[H,<-xT (f:=fun y:SX=>((BZ b y.1,y.2.1,y.2.2):SX))];refine Sp (fun _=>rfl) (by decide) aj J (by simpa using ao) ag (h.1.trans hs) (fun j x c u D d=>?_);rw[xI]at D;obtain⟨y,t,rfl⟩:=yC.1 D;obtain⟨av,au,Q,af⟩:=Cw M (fun _=>rfl) j y t;rw[H]at Q;cases Q;have l:∀c u,(sL pp y)[c]?=some u->I[j*6+c]?=some u:=fun c u F=>by rw[<-Ac O];exact af c u F
   have m:=Po b y.1;have R:P.sels[j]?=some y.1:=by rw[<-G,xI,t];rfl
   have ak:j<P.sels.length:=(wU.1 R).1
   match c,d with
   |0,d=>cases d;rw[h.fix _ (fun r=>by omega)];exact l 0 _ (by rw[m.1];rfl)
   |1,d=>cases d;rw[h.fix _ (fun r=>by omega)];exact l 1 _ (by rw[m.2.1];rfl)
   |2,d=>cases d;rw[h.fix _ (fun r=>by omega)];exact l 2 _ (by rw[m.2.2.1];rfl)
   |3,d=>cases d;rw[h.fix _ (fun r=>by omega)];exact l 3 _ rfl
   |4,d=>cases d;rw[h.fix _ (fun r=>by omega)];exact l 4 _ rfl
   |5,d=>
    cases d;have N:=l 5 _ rfl;have Z:=l 0 _ rfl;have aa:=l 2 _ rfl;show U[j*6+5]?=some (AO pp (BZ b y.1).part);by_cases z:y.1.kind=1
    ·cases B:Iw b y.1.name with
     |none=>
      have w:BZ b y.1=y.1:=by unfold BZ;rw[xH z,B]
      rw[w];rcases h.2 (j*6+5)with q|⟨r,n,u,q,S,T,A,aq⟩
      ·exact q.trans N
      ·have E:r=j:=by omega
       subst E;have Y:n=y.1.name:=by have:=T.symm.trans aa;cases this;rfl
       rw[Y]at A;unfold tg at A;rw[B]at A;cases A
     |some p=>
      have w:(BZ b y.1).part=some p:=by unfold BZ;rw[xH z,B]
      rw[w];have:=ah j y.1 g ak R rfl z (AO pp (some p)) (by unfold tg;rw[B];rfl);rw[Ac J]at this;exact this
    ·have w:BZ b y.1=y.1:=by unfold BZ;rw[xG z]
     rw[w];rcases h.2 (j*6+5)with q|⟨r,n,u,q,S,T,A,aq⟩
     ·exact q.trans N
     ·have E:r=j:=by omega
      subst E;have X:=S.symm.trans Z;simp only[Option.some.injEq,Value.int.injEq,true_and]at X;exact absurd (show y.1.kind=1 by omega) z
   |c+6,d=>simp[sL]at d
 ·obtain⟨y,t,rfl⟩:=List.mem_map.1 D
  exact ap y t
def Kq(Q:Qy):Bool:=decide ((Q.frags.map Prod.fst).Nodup)&&!Nm (BY Q)
theorem Su:∀ps:List Nat,ps.flatMap (fun k=>[pV k])=ps.map pV
 |[]=>rfl
 |x::l=>by rw[List.flatMap_cons,List.map_cons,Su l];rfl
structure TC(Q:Qy):Prop where
 f:∀x∈Q.frags,x.1.size<=4000
 s:∀P∈Q.parts,∀x∈P.sels,x.name.size<=4000
theorem IS.lk{w c:World}{B0 k i cap m:Nat}{t:yF->Option Value}{P:Ai}{a:Option Addr}(p:IS w t P a m)(z:JR w B0 k i P a cap)(y:Lk t B0 w c):IS c t P a m:=fun j x g r l b v u h=>by
 obtain⟨d,D,f,e,q,_,B,C,_⟩:=z.s j x l;have n:d=g:=by rw[e]at b;cases b;rfl
 subst n;exact y.fin q B C (p j x d r l b v u h) (fun _ E A=>xD (h.symm.trans A))
theorem CQ.lnk{w:World}{B0 i k:Nat}{pp:List Nat}{P:Ai}(p:CQ w B0 pp i P)(u:pp[i]?=some k):∃a cap,JR w B0 k i P a cap:=by
 obtain⟨B,G,m,h,q,D,j,b,E,F⟩:=p.ex;have e:B=k:=by rw[u]at h;exact(xD h).symm
 subst e;obtain⟨a,cap,rfl⟩:=An b;have v:P.sels.length=m.length:=by rw[<-j,xT]
 refine⟨a,cap,by rw[v];exact q,by omega,fun t x l=>?_⟩;rw[<-j,xI]at l;obtain⟨y,A,rfl⟩:=yC.1 l;obtain⟨g,C,z,d⟩:=Cw b (fun _=>rfl) t y A;have c:=(Value.slice.inj z).1;obtain⟨n,r⟩:=FG b g (by rw[c];rfl);obtain⟨f,s⟩:∃f,AO pp y.1.part=.pointer f:=by
  cases y.1.part with
  |none=>exact⟨_,rfl⟩
  |some i=>exact⟨_,rfl⟩
 exact⟨g,n,f,c,r,(b.lt g (by rw[c];rfl)).1,by simpa using d 0 _ rfl,d 2 _ rfl,by rw[d 5 _ rfl,s]⟩
theorem Lk.ft{t:yF->Option Value}{B0:Nat}{w b:World}(a:Lk t B0 w b):FT B0 [229] w b:=⟨a.os,a.tape,a.output,a.size,a.low,fun k o d f=>a.oth k o d (fun cs c e=>f cs _ c e (List.mem_singleton_self _))⟩
section
variable {w:World} {B0 q:Nat} {Q:Qy} {ps:List Nat}
theorem mC(A:Fe w B0 q Q ps)(a3:TC Q)(O:B0<=w.heap.size):
 Calls prog 43 #[.pointer (some ⟨q,0,none⟩)] w fun e w'=>e=.returned (.bool (Kq Q))/\FT B0 [229] w w'/\(Kq Q=true->Fe w' B0 q (BY Q) ps):=by
 obtain⟨b7,b6,b8,bS,N,al,bC,bD,bE,am⟩:=A.ex;obtain⟨bo,bp,rfl⟩:=An al;obtain⟨bT,bU,rfl⟩:=An am;have b1:=A.l3;have b0:=A.l2;have b4:=NN;have aO:=Ac N;have Z:=Ab N;have aF:=Aa A;have aH:=Aa a3;have ad:=Aa am;have aL:=Aa al;have aM:=Aa N;have ag:=Aa (Kq.eq_1 Q);generalize Kq Q=aD at*;clear A N al bC bD bE am a3;go_enter func43,ntmps43;go_wp2;go_loopg [4,5,19] Q.frags.length (fun m v4 v5 v19 wr=>∃(t:Nat) (D:DataW Unit),v19=.int .i64 t/\t<=Q.frags.length/\Q.frags.length-t<=m/\BS wr w.heap.size t D/\PM ((Q.frags.map Prod.fst).take t) D/\yG w wr)
 case atStart=>exact⟨0,.map [],rfl,wZ _,wQ _,World.ownsMap_made _ _ _ _,PM.nil,(wR _ _).alloc (wQ _) _⟩
 case round=>
  obtain⟨t,D,rfl,a8,bJ,T,U,hb⟩:=hrel;have aJ:=Aa U;have ab:=Aa hb;have ap:=hb.size;by_cases S:t<Q.frags.length
  ·have y:=wS S
   have C:Q.frags[t]∈Q.frags:=List.getElem_mem S;generalize Q.frags[t]=x at y C;obtain⟨g,G,a9,aq⟩:=Cw ad.o (fun _=>rfl) t x y;have bs:=(Value.slice.inj a9).1;subst bs;obtain⟨J,bH⟩:∃J,AO ps (some x.2)=.pointer J:=⟨_,rfl⟩;have bP:wr.cell? ⟨g,t*2,none⟩=some (.string x.1):=Ah hb (by simpa using aq 0 _ rfl);have b9:wr.cell? ⟨g,t*2+1,none⟩=some (.pointer J):=Ah hb (by rw[aq 1 _ rfl,bH]);have b3:g<wr.heap.size:=wW wr _ bP;have bI:=Ic x.1 (aH.o.f x C);have bK:(Lit.int .i64 (t:Int)).wf=true:=WalkArith.wf_i64 (by omega);have a4:BS (wr.alloc (.cells #[.string x.1,.pointer J] 179)) w.heap.size t D:=T.alloc _;have aE:=Aa (hb.alloc ap (.cells #[.string x.1,.pointer J] 179));have bi:=Aa (show PM ((Q.frags.map Prod.fst).take (t+1)) (D.put (kl x.1) (.lit (.int .i64 t)))from by
    have:=aJ.o.snoc x.1;rw[List.length_take,xT,Nat.min_eq_left a8]at this;rw[xL,xI,y];exact this)
   clear T U hb aq a9 y C;go_wp2_with (at_mapUpdate;refine wpList_mapUpdate_own _ rfl _ _ _ 65 rfl 9 3 Ci underlying65 _ w.heap.size t D rfl a4 (by unfold maxLen;omega) _ _ _ rfl rfl bI _ [] (plainElem_int underlying3 bK) ?_;intro w2 a5 aV);have L:=Aa (aE.o.grown aV aE.o.size (fun j ar=>by cases ar;exact wQ _));have af:=Aa a5;clear a4 aV a5;go_wp2;go_roundg (Q.frags.length-(t+1))
   case measure=>omega
   case rel=>exact⟨t+1,_,by go_num,by omega,wQ _,af.o,bi.o,L.o⟩
  ·have ax:t=Q.frags.length:=by omega
   subst ax;have a6:PM (Q.frags.map Prod.fst) D:=by have:=U;rwa [xB (by simp)]at this
   have bq:=fun k=>(hb.cell (p:=⟨q,k,none⟩) Z).trans (aO k);have bL:q<wr.heap.size:=xA Z ap;have M:=Aa T;have aK:=Aa a6;clear U a6 hb aJ;have aZ:∀F,(Builtin.len_ #[65] F #[.map (some w.heap.size)]).run prog wr=.ok (.int .i64 (Maps.size D)) wr:=fun F=>M.o.len underlying65 F;have a0:∀F,(Builtin.len_ #[65] F #[.map (some w.heap.size)]).run prog wr.drew=.ok (.int .i64 (Maps.size D)) wr.drew:=fun F=>(show BS wr.drew w.heap.size _ D from M.o).len underlying65 F;obtain⟨sz,W⟩:∃sz:Nat,sz=Maps.size D:=⟨_,rfl⟩;rw[<-W]at aZ a0;have aT:((sz:Int)!=(Q.frags.length:Int))=!decide ((Q.frags.map Prod.fst).Nodup):=by
    have:=aK.o.eq;rw[xT,<-W]at this;rw[Bool.eq_iff_iff];simp only[bne_iff_ne,ne_eq,Bool.not_eq_true',decide_eq_false_iff_not];rw[<-this];omega
   obtain⟨aa,aw⟩:∃aa:Bool,aa=decide ((Q.frags.map Prod.fst).Nodup):=⟨_,rfl⟩;rw[<-aw]at aT;have ae:=Aa aw;have bR:=Aa W;clear aw W T;go_upto_region 7 with fail;go_cut [36] (fun v36 wc=>v36=.bool (!aa)/\wc.heap=wr.heap/\yG w wc)
   case first=>
    go_region;all_goals(
     go_wp2;go_meet;exact⟨rfl,rfl,by first|exact ab.o|exact ab.o.drew⟩)
   case rest=>
   obtain⟨rfl,aW,hb⟩:=hcut;have L:=Aa hb;have V:=(hb.block _ Z).trans aM.o;have bX:=Ac V;have b5:=Ab V;have aR:BS wc w.heap.size Q.frags.length D:=by
    obtain⟨es,clock,az,aA,aB,aC⟩:=M.o;exact⟨es,clock,by rw[aW];exact az,aA,aB,aC⟩
   have af:=Aa aR;have h:=Aa (aF.o.below hb);have bm:=Aa V;have bf:=Aa (AT ad.o hb);have bj:=Aa (AT aL.o hb);have bY:B0<=wc.heap.size:=wV O hb.size;clear hb aW aR V bq bL aZ a0 aT M ab aF aM ad aL aO Z ap;obtain⟨K,rfl⟩:∃K:World,K=wc:=⟨_,rfl⟩;cases aa
   ·have bd:=Aa (show aD=false from by rw[ag.o,<-ae.o];rfl)
    go_wp2;go_ret;rw[bd.o];exact⟨rfl,FT.of_below L.o O,fun e=>by cases e⟩
   ·have a2:(Q.frags.map Prod.fst).Nodup:=of_decide_eq_true ae.o.symm
    have bh:=Aa a2;have bk:=Aa (show aD=!Nm (BY Q)from by rw[ag.o,<-ae.o];rfl);have bg:=Aa h.o.n;clear ag a2;go_wp2;go_loopg [7,42] ps.length (fun m v7 v42 wr=>∃(t:Nat),v42=.int .i64 t/\t<=ps.length/\ps.length-t<=m/\Lk (tg Q.frags ps) B0 K wr/\∀d P k a cap,d<t->Q.parts[d]?=some P->ps[d]?=some k->JR K B0 k d P a cap->IS wr (tg Q.frags ps) P a P.sels.length)
    case atStart=>exact⟨0,rfl,wZ _,wQ _,Lk.refl,fun d P k a cap A=>absurd A (Nat.not_lt_zero _)⟩
    case round=>
     obtain⟨t,rfl,a8,bJ,c,R⟩:=hrel;have aG:=Aa c;have bc:=Aa R;by_cases S:t<ps.length
     ·have i:=wS S
      generalize ps[t]=k at i;have a1:t<Q.parts.length:=by have:=bg.o;omega
      have B:=wS a1;have C:Q.parts[t]∈Q.parts:=List.getElem_mem a1;generalize Q.parts[t]=P at B C;have E:=h.o.pt t P B;rw[Nat.zero_add]at E;obtain⟨a,cap,H⟩:=E.lnk i;have a7:wr.ownsRow B0 120 1 (.slice bo ps.length bp) ps.length (ps.flatMap (fun k=>[pV k])):=by
       rw[Su];exact c.own bj.o (by decide)
      obtain⟨aQ,bV,ba,aU⟩:=Cw a7 (fun _=>rfl) t k i;have bu:=(Value.slice.inj ba).1;subst bu;have bQ:wr.cell? ⟨aQ,t,none⟩=some (.pointer (some ⟨k,0,none⟩)):=by simpa [pV]using aU 0 _ rfl
      have b2:aQ<wr.heap.size:=wW wr _ bQ;have aS:BS wr w.heap.size Q.frags.length D:=by
       obtain⟨es,clock,az,aA,aB,aC⟩:=af.o;exact⟨es,clock,c.oth _ _ az (fun _ _ e=>by cases e),aA,aB,aC⟩
      have I:=Aa (mB (H.lk c Td) (c.at bm.o (by decide)) (c.own bf.o (by decide)) aS aK.o bh.o (aH.o.s P C));have aI:=Aa (fun(Y:World) (bF:Lk (tg Q.frags ps) B0 wr Y) (bG:IS Y (tg Q.frags ps) P a P.sels.length)=>(show∀d r X u G,d<t+1->Q.parts[d]?=some r->ps[d]?=some X->JR K B0 X d r u G->IS Y (tg Q.frags ps) r u r.sels.length from fun d r X u G bZ ao au av=>by
       by_cases bv:d=t
       ·subst bv
        rw[B]at ao;cases ao;rw[i]at au;cases au;have e:=H.b.symm.trans av.b;simp only[Option.some.injEq,Obj.cells.injEq]at e;have br:=e.1;have aj:a=u:=by
         have:=congrArg (fun z:Array Value=>z[2]?) br;simp at this;exact this.1
        subst aj;exact bG
       ·exact(bc.o d r X u G (by omega) ao au av).lk (av.lk c Td) bF))
      clear a7 aU ba aS H E B C i c R;go_wp2_with fail;refine I.o.mono ?_;rintro _ w5 ⟨rfl,ay,aP⟩;have aN:=Aa (xZ (aG.o.trans ay) (aI.o w5 ay aP));clear ay aP I aI;go_wp2;go_roundg (ps.length-(t+1))
      case measure=>omega
      case rel=>exact⟨t+1,by go_num,by omega,wQ _,aN.o.1,aN.o.2⟩
     ·have ax:t=ps.length:=by omega
      subst ax;have ah:=Aa (show Fe wr B0 q (BY Q) ps from by
       obtain⟨bN,bM,bO,bn,bw,bx,bz,bA,ak,bB⟩:=h.o.ex;refine⟨⟨bN,bM,bO,bn,c.at bw (by decide),c.own bx (by decide),bz,c.own bA (by decide),fun x y=>⟨c.own (ak x y).v (by decide),(ak x y).l,(ak x y).p⟩,c.own bB (by decide)⟩,h.o.ff,by rw[h.o.n];simp[BY],fun j r ar=>?_,h.o.lq,h.o.l1,h.o.l2,h.o.l3⟩;have aX:(Q.parts.map (fun P=>(⟨P.typ,P.sels.map (BZ Q.frags)⟩:Ai)))[j]?=some r:=ar;rw[xI]at aX;obtain⟨P,B,rfl⟩:=yC.1 aX;have E:=h.o.pt j P B;refine E.linked c h.o.ff (fun k a cap i aY=>?_);rw[Nat.zero_add]at i aY E;obtain⟨u,G,H⟩:=E.lnk i;have e:=H.b.symm.trans aY;simp only[Option.some.injEq,Obj.cells.injEq]at e;have aj:u=a:=by
        have:=congrArg (fun z:Array Value=>z[2]?) e.1;simp at this;exact this.1
       subst aj;exact R j P k u G (FC i) B i H)
      have I:=Aa (cX ah.o);generalize Nm (BY Q)=bW at*;clear c R;go_wp2_with fail;refine I.o.mono ?_;rintro _ w5 ⟨rfl,ai⟩;have bb:=Aa (show FT B0 [229] w w5 from((FT.of_below L.o O).trans aG.o.ft).bt ai O);have bl:=Aa (ah.o.below ai);clear ai I ah;go_wp2;go_ret;rw[bk.o];exact⟨rfl,bb.o,fun _=>bl.o⟩
end
end Go.Proofs.YtogdodlibkckkaaGreatDoor
