import Derived.Test.YtogdodlibkckkaaGreatDoorZ29
import Derived.Test.YtogdodlibkckkaaGreatDoorZ33
import Derived.Lib.SliceRun
namespace Go.Proofs.YtogdodlibkckkaaGreatDoor
set_option maxHeartbeats 20000000
set_option maxRecDepth 100000
open Go.RowKit Tryz
def Gy(c:Hm):Bool:=((c.2.1:Int)==(c.1:Int))
theorem eB(c:Hm):Gy c=decide (c.2.1=c.1):=by
 unfold Gy;rw[Bool.eq_iff_iff];simp;omega
theorem dE(w:World)(c:Hm):Calls prog 248 #[.agg #[.int .i64 c.1,.int .i64 c.2.1,.int .i64 c.2.2.1,.string c.2.2.2]] w fun e w'=>e=.returned (.bool (Gy c))/\yG w w':=by
 have a:=Aa (show Gy c=((c.2.1:Int)==(c.1:Int))from rfl);generalize Gy c=q at*;go_enter func248,ntmps248;go_wp2;go_ret;rw[a.o];exact⟨rfl,bA (wR _ _) _⟩
section
variable {w:World} {B:Nat} {v:Value} {l:List Hm}
theorem iZ(p:w.ownsRow B 238 4 v l.length (l.flatMap cL))(H:l.length<=802):
 Calls prog 266 #[v,.func (Fn.func 248) #[] #[]] w fun e w'=>(∃q:Int,e=.returned (.int .i64 q)/\decide (0<=q)=l.any Gy/\ -1<=q)/\yG w w':=by
 obtain⟨a,cap,rfl⟩:=An p;have z:=Aa p;obtain⟨b,u⟩:∃b,Hi (b=l.any Gy):=⟨_,Aa rfl⟩;rw[<-u.o];clear p;go_enter func266,ntmps266;go_wp2;go_loopg [5,8] l.length (fun m v5 v8 wr=>∃k:Nat,v8=.int .i64 k/\k<=l.length/\l.length-k<=m/\yG w wr/\b=(l.drop k).any Gy)
 case atStart=>exact⟨0,rfl,wZ _,wQ _,wR _ _,u.o⟩
 case round=>
  obtain⟨k,rfl,G,I,hb,hrel⟩:=hrel;have f:=Aa hrel;have j:=Aa hb;by_cases x:k<l.length
  ·have s:=wS x
   have r:l.drop k=l[k]::l.drop (k+1):=xX x;generalize l[k]=c at s r;obtain⟨g,F,y,i⟩:=Cw z.o (fun _=>rfl) k c s;have C:=(Value.slice.inj y).1;subst C;have E:wr.cell? ⟨g,k*4,none⟩=some (.int .i64 c.1):=Ah hb (by simpa using i 0 _ rfl);have K:wr.cell? ⟨g,k*4+1,none⟩=some (.int .i64 c.2.1):=Ah hb (i 1 _ rfl);have L:wr.cell? ⟨g,k*4+2,none⟩=some (.int .i64 c.2.2.1):=Ah hb (i 2 _ rfl);have M:wr.cell? ⟨g,k*4+3,none⟩=some (.string c.2.2.2):=Ah hb (i 3 _ rfl);have J:=wW wr _ E;have t:=Aa (dE wr c);rw[r,List.any_cons]at f;generalize Gy c=A at*;clear i y s r hrel hb;cases A
   ·have d:=Aa (show b=(l.drop (k+1)).any Gy from f.o)
    go_wp2_with fail;refine t.o.mono ?_;rintro _ w1 ⟨rfl,h⟩;have n:=Aa (bT j.o h);clear h;go_wp2;go_roundg (l.length-(k+1))
    case measure=>omega
    case rel=>exact⟨k+1,by go_num,by omega,wQ _,n.o,d.o⟩
   ·have d:=Aa (show b=true from f.o)
    go_wp2_with fail;refine t.o.mono ?_;rintro _ w1 ⟨rfl,h⟩;have n:=Aa (bT j.o h);clear h;go_wp2;go_ret;exact⟨⟨(k:Int),rfl,by rw[d.o];exact xM (by omega),by omega⟩,n.o⟩
  ·have D:k=l.length:=by omega
   subst D;have d:=Aa (show b=false from by rw[f.o,List.drop_length];rfl);clear hb hrel f;go_wp2;go_ret;exact⟨⟨-1,rfl,by rw[d.o];rfl,by omega⟩,j.o⟩
theorem iK(b:w.ownsRow B 238 4 v l.length (l.flatMap cL))(f:l.length<=802):
 Calls prog 247 #[v,.func (Fn.func 248) #[] #[]] w fun e w'=>e=.returned (.bool (l.any Gy))/\yG w w':=by
 have c:=Aa (iZ b f);obtain⟨a,cap,rfl⟩:=An b;generalize l.any Gy=q at*;clear b;go_enter func247,ntmps247;go_wp2_with fail;refine c.o.mono ?_;rintro _ w1 ⟨⟨z,rfl,g,_⟩,d⟩;go_wp2;go_ret;exact⟨Al (by rw[<-g]),d⟩
theorem kV{g o B0:Nat}{pp:List Nat}{x:As}(f:Fg w B0 pp g o x):
 Calls prog 215 #[.pointer (some ⟨g,o,none⟩)] w fun e w'=>e=.returned (.bool (Mj x))/\yG w w':=by
 obtain⟨n,p,i,k,d,a⟩:=f.ex;have l:w.cell? ⟨g,o+4,none⟩=some (.slice i x.conds.length k):=d 4 _ rfl;have r:=wW w _ l;have b:=Aa (iK a.c a.cl);have h:=Aa (show Mj x=x.conds.any Gy from by unfold Mj;congr 1;funext c;exact(eB c).symm);generalize Mj x=m at*;simp only[]at b;generalize x.conds.any Gy=q at*;clear d a f;go_enter func215,ntmps215;go_wp2_with fail;refine b.o.mono ?_;rintro _ w1 ⟨rfl,j⟩;go_wp2;go_ret;rw[h.o];exact⟨rfl,j⟩
end
open Go.Lib (strCells)
def GI(roles:List yF)(fs:List Am):List yF:=(fs.filter (fun f=>DW roles f.hide_)).map Am.name
def Kg(objs:List Aq)(ifs:List At)(roles:List yF)(typ:yF):List UInt8:=match Dx objs ifs typ with
 |none=>FR
 |some fs=>GE (GI roles fs)
theorem tZ(roles:List yF)(l:List Am)(f:Am):GI roles (l++[f])=GI roles l++(if DW roles f.hide_=true then [f.name]else []):=by
 unfold GI;rw[List.filter_append,xY];by_cases a:DW roles f.hide_=true
 ·rw[xH a];simp[a]
 ·rw[xG a];simp[a]
section
variable {w:World} {S:Nat} {vR vO vI vU vN:Value} {LR:List (Au×Value)} {LO:List AX} {LI:List (At×Value)} {LU:List (Aw×Value)} {names:List yF} {B0 M T V n:Nat} {s:Aj}
theorem nV(au:SV w S vR vO vI vU vN LR LO LI LU names){vL u:Value}{id:yF}{roles:List yF}(av:DV w V id roles)(X:w.heap[T]?=some (.cells #[vL,.pointer (some ⟨S,0,none⟩),u] 67 (0,0)))(typ:yF)(aB:∀fs,Dx (LO.map Prod.fst) (LI.map Prod.fst) typ=some fs->fs≠[]/\∀f∈fs,f.name.size<=100000)(Q:MK w B0 M T V n s)(ab:Eu s)(a6:s.data.length<=60000000000000)(D:B0<=w.heap.size):Calls prog 167 #[.pointer (some ⟨M,0,none⟩),.string typ] w (AQ w B0 M T V n (.tuple #[]) (s.write (Kg (LO.map Prod.fst) (LI.map Prod.fst) roles typ))):=by
 obtain⟨bf,a1,aE⟩:=yC.1 info9';simp only[Prod.mk.injEq]at aE;obtain⟨bb,bc,bd⟩:=aE;have I:=Aa (YG au typ);have ai:=Aa (fun(W:World) (i:yG w W) (l:List yF) (a3:l.length<=10000) (a4:∀x∈l,x.size<=100000) (v:Value) (q:W.ownsRow w.heap.size 9 1 v l.length (Bn l))=>WP (w:=W) l v (fun bj aX=>aX.strs q) a3 a4 (Q.below i) ab a6 (wV D i.size));have al:=Aa (fun(W:World) (i:yG w W)=>Je ⟨#[110,117,108,108]⟩ (by decide) (Q.below i) ab (wV D i.size));have aO:=Aa (fun(W:World) (i:yG w W)=>av.below i);obtain⟨bF,bG,bH,h⟩:=Q;have am:=Aa h;have aR:=Ac h.b;have bg:=Ab h.b;have aS:=Ac X;have bh:=Ab X;have bs:=fun(W:World) (a:Option Addr) (n c:Nat)=>Lib.run_eql_slice_nil (P:=prog) W 144 166 a n c 0 0 underlying144;have ak:=Aa (Kg.eq_1 (LO.map Prod.fst) (LI.map Prod.fst) roles typ);generalize Kg (LO.map Prod.fst) (LI.map Prod.fst) roles typ=F at*;have aj:=Aa aB;generalize Dx (LO.map Prod.fst) (LI.map Prod.fst) typ=aV at*;unfold AQ at ai al⊢;clear h X au ab av aB;go_enter func167,ntmps167;go_wp2_with fail;refine I.o.mono ?_;rintro _ w1 ⟨v,rfl,r,ae⟩;have ag:=Aa r;cases aV with
 |none=>
  have e:v=.slice none 0 0:=ae;subst e;have L:=Aa (show F=FR from ak.o);have aP:=Aa (al.o w1 r);clear r ae I;go_wp2_with fail;refine aP.o.mono ?_;rintro _ w3 ⟨rfl,B,z⟩;have G:=Aa B;have E:=Aa ((FT.of_below ag.o D).trans z);clear B z;go_wp2;refine bodyPost_ret (v:=.tuple #[]) (by simp[results,go_sem]) rfl ?_;rw[L.o];exact⟨rfl,G.o,E.o⟩
 |some fs=>
  obtain⟨aC,bt⟩:=ae;obtain⟨a0,ay⟩:=aj.o fs rfl;have L:=Aa (show F=GE (GI roles fs)from ak.o);obtain⟨ap,R,ad⟩:=aC.row;have ar:ap.length=fs.length:=by rw[<-R,xT]
  obtain⟨A,aq,a8,aw⟩:∃A aq,v=.slice (some ⟨A,0,none⟩) fs.length aq/\∀j f,fs[j]?=some f->∃u,Cn w A (j*6) f u:=by
   obtain⟨af,ba⟩:∃af,ap[0]?=some af:=⟨_,wS (by have:=List.length_pos_iff.2 a0;omega)⟩;obtain⟨g,cap,e,_,_⟩:=ad.fldAt 0 af ba;refine⟨g,cap,by rw[e,ar],fun j f aA=>?_⟩;rw[<-R,xI]at aA;obtain⟨y,a9,rfl⟩:=yC.1 aA;obtain⟨br,bo,aT,C,_⟩:=ad.fldAt j y a9;have aU:=Addr.mk.inj (xD (Value.slice.inj (e.symm.trans aT)).1);rw[aU.1];exact⟨y.2,C⟩
  subst a8;have aI:=Aa aw;have aN:=Aa ay;have p:=(am.o.below r).b;have bm:=Ac p;have bB:=Ab p;clear aC R ad ar aw r ay aj p aR bg aS bh I;go_wp2;go_loopg [5,6,22] fs.length (fun m v5 v6 v22 wr=>∃(t:Nat) (d:List yF),v22=.int .i64 t/\t<=fs.length/\fs.length-t<=m/\yG w wr/\wr.ownsRow w.heap.size 9 1 v5 d.length (Bn d)/\d=GI roles (fs.take t))
  case atStart=>exact⟨0,[],rfl,wZ _,wQ _,ag.o,xF _ _ _ _,rfl⟩
  case round=>
   obtain⟨t,d,rfl,bw,bx,hb,q,Z⟩:=hrel;have H:=Aa hb;have K:=Aa q;have J:=Aa Z;obtain⟨bk,cl,rfl⟩:=An q;have bu:d.length<=802:=by
    rw[Z];unfold GI;rw[xT];refine wV (List.length_filter_le _ _) ?_;rw[List.length_take];omega
   have p:=(am.o.below hb).b;have bn:=Ac p;have bC:=Ab p;have aY:=hb.size;clear Z p;by_cases a5:t<fs.length
   ·have h:=wS a5
    generalize fs[t]=f at h;obtain⟨bE,ax⟩:=aI.o t f h;have C:=ax.below hb;have O:=C.c0;have aF:=wW wr _ O;have ah:=Aa (fun(W:World) (i:yG wr W)=>Zk ((aO.o wr hb).below i) (C.below i));have ao:=Aa (show GI roles (fs.take (t+1))=d++(if DW roles f.hide_=true then [f.name]else [])from by rw[xL,h,Option.toList_some,tZ,J.o]);generalize DW roles f.hide_=bi at*;have bv:(t:Int)<fs.length:=by omega
    have aW:=q.alloc (.cells #[.string f.name] 9);clear hb C ax h;cases bi
    ·have N:=Aa (show d=GI roles (fs.take (t+1))from by rw[ao.o];simp)
     go_wp2;go_quiet ((go_at_call 60;refine Calls.quiet_of_same (ah.o _ (below_drewN (wR _ _) _))));go_wp2;go_roundg (fs.length-(t+1))
     case measure=>omega
     case rel=>exact⟨t+1,d,by go_num,by omega,wQ _,below_drewN H.o _,AT K.o (below_drewN (wR _ _) _),N.o⟩
    ·have N:=Aa (show d++[f.name]=GI roles (fs.take (t+1))from by rw[ao.o];simp)
     go_wp2;go_quiet ((go_at_call 60;refine Calls.quiet_of_same (ah.o _ (below_drewN (wR _ _) _))));have aL:=Aa (AT K.o (below_drewN (wR _ _) nq));have aH:=Aa (below_drewN H.o nq);have bq:(wr.drewN nq).cell? ⟨A,t*6,none⟩=some (.string f.name):=Ah (below_drewN (wR _ _) nq) O;have bD:A<(wr.drewN nq).heap.size:=xA aF (below_drewN (wR wr.heap.size wr) nq).size;have bz:w.heap.size<=(wr.drewN nq).heap.size:=wV aY (below_drewN (wR wr.heap.size wr) nq).size;generalize wr.drewN nq=aQ at*;have U:=aL.o.alloc (.cells #[.string f.name] 9);clear O aF aW q;go_wp2_with (at_builtin;refine wpList_append_own _ rfl _ _ 42 rfl w.heap.size 9 bf (.string ⟨#[]⟩) 1 16 underlying42 a1 bb bc bd rfl (by decide) _ _ _ rfl U ⟨aQ.heap.size,0,none⟩ 1 1 [.string f.name] rfl rfl (Cz _ _ _ _ (by simp)) (fun u aD=>by simp at aD;subst aD;rfl) (by unfold maxLen;omega) (by omega) (by simp;omega) ?_;intro v' w2 aa az _);have aG:=Aa (show yG w w2 from(bA aH.o (.cells #[.string f.name] 9)).grown az (by simp;omega) (fun k a2=>(U.lt k a2).1));have aK:=Aa (show w2.ownsRow w.heap.size 9 1 v' (d++[f.name]).length (Bn (d++[f.name]))from by
      rw[xJ];simpa [Bn]using aa)
     obtain⟨bl,bp,rfl⟩:=An aa;clear aa az U;go_roundg (fs.length-(t+1))
     case measure=>omega
     case rel=>exact⟨t+1,d++[f.name],by go_num,by omega,wQ _,aG.o,aK.o,N.o⟩
   ·have a7:t=fs.length:=by omega
    subst a7;have Y:d=GI roles fs:=by rw[J.o,List.take_length]
    have aJ:=Aa (ai.o wr hb d (by omega) (fun x h=>by
     rw[Y]at h;obtain⟨f,aZ,rfl⟩:=List.mem_map.1 h;exact aN.o f (List.mem_filter.1 aZ).1) _ K.o)
    have aM:=Aa (show F=GE d from by rw[L.o,Y]);clear hb q J Y;go_wp2_with fail;refine aJ.o.mono ?_;rintro _ w3 ⟨rfl,B,z⟩;have G:=Aa B;have E:=Aa ((FT.of_below H.o D).trans z);clear B z;go_wp2;go_end0;rw[aM.o];exact⟨rfl,G.o,E.o⟩
end
def PL(s a:Aj):Prop:=a.path=s.path/\a.left<=s.left
theorem PL.refl(s:Aj):PL s s:=⟨rfl,Int.le_refl _⟩
theorem PL.trans{a b c:Aj}(d:PL a b)(k:PL b c):PL a c:=⟨k.1.trans d.1,Int.le_trans k.2 d.2⟩
theorem PL.write(s:Aj)(t:List UInt8):PL s (s.write t):=⟨rfl,Int.le_refl _⟩
theorem PL.fail(s:Aj):PL s s.fail:=⟨rfl,Int.le_refl _⟩
theorem PL.step(s:Aj):PL s s.step:=⟨rfl,by show s.left-1<=s.left;omega⟩
theorem PL.settle(n a:Nat)(st:Bool)(s:Aj):PL s (Cg n a st s).2:=by
 unfold Cg;split
 ·exact PL.refl _
 ·show PL s (if a=1/\st=true then(s.cutNull n).fail else s.cutNull n)
  split<;>exact⟨rfl,Int.le_refl _⟩
theorem Rk(p t:List UInt8):(Cf p++t).take p.length=p:=by
 unfold Cf;split
 ·rename_i a;rw[a];rfl
 ·rw[List.append_assoc,List.take_left]
theorem PL.around{s1 a:Aj}{t:List UInt8}(b:PL (s1.enter t) a):PL s1 (a.leave s1.path.length):=⟨by
 show a.path.take s1.path.length=s1.path;rw[b.1];exact Rk _ _,b.2⟩
def EK(a:Cd):Prop:=∀r b s,PL s (a r b s).2
theorem Yw{a:Cd}(c:EK a)(r:Option MR)(b:List Nat)(s:Aj):PL s (GH a r b s).2:=by
 unfold GH;cases r with
 |none=>exact PL.fail s
 |some r=>exact c r b s
mutual
theorem ME(E:AM){e:Cd}(d:EK e):∀(c:RV) (b:Bv) (a:List Nat) (s:Aj),PL s (BR E e c b a s).2
 | .mk k n t l,b,a,s=>by
   rw[BR];split
   ·exact PL.refl _
   split
   ·exact PL.fail _
   split
   ·exact Yw d _ _ _
   split
   ·exact(PL.write s _).trans (Vz E d l 0 (Oi b) a 0 (s.write [91]))
   ·exact PL.write s _
theorem Vz(E:AM){d:Cd}(f:EK d):∀(l:List RV) (i:Nat) (a:Bv) (b:List Nat) (e:Nat) (s:Aj),PL s (Cp E d l i a b e s).2
 |[],i,a,b,e,s=>by rw[Cp];exact PL.write s _
 |c::l,i,a,b,e,s=>by
  rw[Cp];split
  ·exact PL.step s
  ·have g:PL s (if 0<i then s.step.write [44]else s.step):=by
    split
    ·exact(PL.step s).trans (PL.write _ _)
    ·exact PL.step s
   generalize (if 0<i then s.step.write [44]else s.step)=s1 at*;have h:=ME E f c a b (s1.enter (AH i));have j:=PL.settle (s1.enter (AH i)).data.length (BR E d c a b (s1.enter (AH i))).1 (Dk a) (BR E d c a b (s1.enter (AH i))).2;exact(g.trans (PL.around (h.trans j))).trans (Vz E f l (i+1) a b _ _)
end
theorem Qk(E:AM){b:Cd}(a:EK b)(r:MR)(d:Am)(f:QF)(s:Aj):PL s (Er E b r d f s).2:=by
 unfold Er;split
 ·exact PL.fail s
 split
 ·exact Yw a _ _ _
 split
 ·exact ME E a _ _ _ _
 ·exact ME E a _ _ _ _
theorem OQ(E:AM){a:Cd}(b:EK a)(r:MR)(f:QF)(s:Aj):PL s (DI E a r f s).2:=by
 unfold DI;split
 ·exact PL.write s _
 split
 ·exact PL.write s _
 split
 ·exact PL.write s _
 ·exact(Qk E b r _ f s).trans (PL.settle _ _ _ _)
theorem Xh(E:AM){c:Cd}(b:EK c)(r:MR):∀(l:List QF) (i a:Nat) (s:Aj),PL s (Cv E c r l i a s).2
 |[],i,a,s=>by rw[Cv];exact PL.write s _
 |f::l,i,a,s=>by
  rw[Cv];split
  ·exact PL.step s
  ·have d:PL s (if 0<i then s.step.write [44]else s.step):=by
    split
    ·exact(PL.step s).trans (PL.write _ _)
    ·exact PL.step s
   generalize (if 0<i then s.step.write [44]else s.step)=s1 at*;have e:=OQ E b r f ((s1.enter (AK f)).write (AK f++[58]));exact(d.trans (PL.around ((PL.write _ _).trans e))).trans (Xh E b r l (i+1) _ _)
theorem GX(E:AM):∀f,EK (AV E f)
 |0,_,_,s=>PL.refl s
 |f+1,r,a,s=>by rw[AV];exact(PL.write s _).trans (Xh E (GX E f) r _ 0 0 (s.write [123]))
end Go.Proofs.YtogdodlibkckkaaGreatDoor
