import Derived.Test.YtogdodlibkckkaaGreatDoorZ23
import Derived.Test.YtogdodlibkckkaaGreatDoorZ38
import Derived.BigQuiet
namespace Go.Proofs.YtogdodlibkckkaaGreatDoor
set_option maxHeartbeats 20000000
set_option maxRecDepth 100000
open Go.RowKit Tryz
section
variable {w:World} {S:Nat} {vR vO vI vU vN:Value} {LR:List (Au×Value)} {LO:List AX} {LI:List (At×Value)} {LU:List (Aw×Value)} {names:List yF}
theorem iI(P:SV w S vR vO vI vU vN LR LO LI LU names){V C Sb g o B0:Nat}{id:yF}{roles:List yF}{pp:List Nat}{parts:List Ai}{x:As}{v3:Value}{seen:List Bool}{rec:EI}{typ:yF}(v:DV w V id roles)(s:w.heap[C]?=some (.cells #[.pointer (some ⟨S,0,none⟩),.pointer (some ⟨V,0,none⟩),v3] 189 (0,0)))(D:Fg w B0 pp g o x)(hs:w.heap[Sb]?=some (.cells (Bw seen).toArray 4 (0,0)))(am:Bl w B0 pp 0 parts)(aO:pp.length=parts.length)
 (aa:∀W,yG w W->∀p k aj,x.part=some p->pp[p]?=some k->KH W C Sb (.pointer (some ⟨k,0,none⟩)) aj (rec p aj seen)):
 Calls prog 112 #[.pointer (some ⟨C,0,none⟩),.pointer (some ⟨g,o,none⟩),.string typ] w fun e w'=>e=.returned (.bool (Dn ⟨LO.map Prod.fst,LI.map Prod.fst,LU.map Prod.fst,roles⟩ parts rec x typ seen).1)/\w'.heap[Sb]?=some (.cells (Bw (Dn ⟨LO.map Prod.fst,LI.map Prod.fst,LU.map Prod.fst,roles⟩ parts rec x typ seen).2).toArray 4 (0,0))/\Ag Sb w w':=by
 have aK:=Aa D;obtain⟨aL,aM,ay,az,A,B⟩:=D.ex;have H:w.cell? ⟨g,o,none⟩=some (.int .i64 x.kind):=by simpa using A 0 _ rfl
 have aU:w.cell? ⟨g,o+4,none⟩=some (.slice ay x.conds.length az):=A 4 _ rfl;have ag:=Aa (show w.cell? ⟨g,o+5,none⟩=some (AO pp x.part)from A 5 _ rfl);have aG:=wW w _ H;have G:=Ab hs;have ae:=Aa hs;have R:=B.p;have aD:=B.cl;have ad:=Aa B.c;have b:=Aa (Dn.eq_1 ⟨LO.map Prod.fst,LI.map Prod.fst,LU.map Prod.fst,roles⟩ parts rec x typ seen);generalize Dn ⟨LO.map Prod.fst,LI.map Prod.fst,LU.map Prod.fst,roles⟩ parts rec x typ seen=n at*;simp only[]at b R aD ad;have J:=Aa (fun W (d:yG w W)=>fT (P.below d) (typ:=typ) (v.below d) ((d.block _ (Ab s)).trans s) (D.below d) ((d.block _ G).trans hs) (fun O Q=>aa O (bT d Q)));have L:=Aa (fun W (d:yG w W) p k (ak:x.part=some p) (al:pp[p]?=some k)=>(show Calls prog 158 #[.pointer (some ⟨C,0,none⟩),.pointer (some ⟨k,0,none⟩),.string typ] W fun e w'=>e=.returned (.bool (Jh ⟨LO.map Prod.fst,LI.map Prod.fst,LU.map Prod.fst,roles⟩ parts rec p typ seen).1)/\w'.heap[Sb]?=some (.cells (Bw (Jh ⟨LO.map Prod.fst,LI.map Prod.fst,LU.map Prod.fst,roles⟩ parts rec p typ seen).2).toArray 4 (0,0))/\Ag Sb W w' from by
  have ar:p<parts.length:=by have:=R p ak;omega
  have aq:=am p _ (wS ar);rw[Nat.zero_add]at aq;obtain⟨a,cap,ao,_,_⟩:=aq.rd al;have aE:Ax parts p=parts[p]:=by simp[Ax,List.getD,wS ar]
  have:=qN (P.below d) (typ:=typ) (r:=fun T=>rec p T seen) ((d.block _ (Ab s)).trans s) ((d.block _ (Ab ao)).trans ao) ((d.block _ G).trans hs) (fun O Q=>aa O (bT d Q) p k _ ak al);unfold Jh;rw[aE];exact this))
 generalize Ix ⟨LO.map Prod.fst,LI.map Prod.fst,LU.map Prod.fst,roles⟩ rec x typ seen=aC at*;clear P v s D hs aa A B am;obtain⟨j,N⟩:∃j,Hi (j=x.conds.all (fun c=>Dy c.2 JB true)):=⟨_,Aa rfl⟩;rw[<-N.o]at b;go_enter func112,ntmps112;go_wp2;go_loopg [8,14] x.conds.length (fun m v8 v14 wr=>∃(t:Nat),v14=.int .i64 t/\t<=x.conds.length/\x.conds.length-t<=m/\yG w wr/\j=(x.conds.drop t).all (fun c=>Dy c.2 JB true))
 case atStart=>exact⟨0,rfl,wZ _,wQ _,wR _ _,N.o⟩
 case round=>
  obtain⟨t,rfl,aP,aQ,hb,hrel⟩:=hrel;have q:=Aa hrel;have y:=Aa hb;have aT:=Ah hb H;by_cases ap:t<x.conds.length
  ·have U:=wS ap
   have X:x.conds.drop t=x.conds[t]::x.conds.drop (t+1):=xX ap;generalize x.conds[t]=c at U X;obtain⟨z,aN,v,u⟩:=Cw ad.o (fun _=>rfl) t c U;have aA:=(Value.slice.inj v).1;subst aA;have aJ:wr.cell? ⟨z,t*4,none⟩=some (.int .i64 c.1):=Ah hb (by simpa using u 0 _ rfl);have aV:wr.cell? ⟨z,t*4+1,none⟩=some (.int .i64 c.2.1):=Ah hb (u 1 _ rfl);have aW:wr.cell? ⟨z,t*4+2,none⟩=some (.int .i64 c.2.2.1):=Ah hb (u 2 _ rfl);have aX:wr.cell? ⟨z,t*4+3,none⟩=some (.string c.2.2.2):=Ah hb (u 3 _ rfl);have aR:=wW wr _ aJ;rw[X,List.all_cons]at q;have au:=Aa (fun W=>Nt W c.2 JB true);generalize Dy c.2 JB true=aB at*;clear u v U X hrel hb H;go_wp2_with fail;refine(au.o _).mono ?_;rintro _ w1 ⟨rfl,ai⟩;have I:=Aa (bT (bA y.o _) ai);clear ai;cases aB
   ·have i:=Aa (show j=false from q.o)
    rw[i.o]at b;have h:=Aa (show n=(false,seen)from b.o);go_wp2;go_ret;rw[h.o];exact⟨rfl,(I.o.block _ G).trans ae.o,Ag.of_below I.o⟩
   ·have i:=Aa (show j=(x.conds.drop (t+1)).all (fun c=>Dy c.2 JB true)from q.o)
    go_wp2;go_roundg (x.conds.length-(t+1))
    case measure=>omega
    case rel=>exact⟨t+1,by go_num,by omega,wQ _,I.o,i.o⟩
  ·have aF:t=x.conds.length:=by omega
   subst aF;have i:=Aa (show j=true from by rw[q.o,List.drop_length];rfl);rw[i.o,xH rfl]at b;have ah:=Aa (Ah hb ag.o);have aw:=Aa ((hb.block _ G).trans ae.o);have K:=Aa (J.o wr hb);have M:=Aa (L.o wr hb);have aS:=xA aG hb.size;clear hrel q hb H ag N i;by_cases Y:x.kind=0
   ·have ax:((x.kind:Int)==0)=true:=by rw[Y];rfl
    rw[xH Y]at b;have h:=Aa (show n=aC from b.o);go_wp2_with fail;refine K.o.mono ?_;rintro _ w1 ⟨rfl,l,E⟩;rw[<-h.o]at l⊢;go_wp2;go_ret;exact⟨rfl,l,(Ag.of_below y.o).trans E⟩
   ·have ax:((x.kind:Int)==0)=false:=by simp;omega
    rw[xG Y]at b;cases f:x.part with
    |none=>
     have aI:wr.cell? ⟨g,o+5,none⟩=some (.pointer none):=by have:=ah.o;rw[f]at this;exact this
     rw[f]at b;have h:=Aa (show n=(false,seen)from b.o);clear f b M L J K;go_wp2;go_ret;rw[h.o];exact⟨rfl,aw.o,Ag.of_below y.o⟩
    |some p=>
     obtain⟨F,Z⟩:∃F,pp[p]?=some F:=⟨_,wS (R p f)⟩;have aI:wr.cell? ⟨g,o+5,none⟩=some (.pointer (some ⟨F,0,none⟩)):=by have:=ah.o;rw[f]at this;rw[this];simp[AO,Z]
     rw[f]at b;have av:=Aa (M.o p F f Z);have b:=Aa (show n=Jh ⟨LO.map Prod.fst,LI.map Prod.fst,LU.map Prod.fst,roles⟩ parts rec p typ seen from b.o);generalize Jh ⟨LO.map Prod.fst,LI.map Prod.fst,LU.map Prod.fst,roles⟩ parts rec p typ seen=aH at*;have h:=Aa (show n=aH from b.o);clear f b M L J K Z;go_wp2_with fail;refine av.o.mono ?_;rintro _ w1 ⟨rfl,l,E⟩;rw[<-h.o]at l⊢;have ab:=Aa l;have af:=Aa ((Ag.of_below y.o).trans E);clear l E;go_wp2;go_ret;first|exact⟨rfl,ab.o,af.o⟩|exact⟨Al (by simp),ab.o,af.o⟩
end
section
variable {S:Nat} {vR vO vI vU vN:Value} {LR:List (Au×Value)} {LO:List AX} {LI:List (At×Value)} {LU:List (Aw×Value)} {names:List yF} {V C Sb B0:Nat} {id:yF} {roles:List yF} {pp:List Nat} {parts:List Ai} {w0:World}
theorem ZX(ab:SV w0 S vR vO vI vU vN LR LO LI LU names)(aq:DV w0 V id roles)(K:Bl w0 B0 pp 0 parts)(aj:pp.length=parts.length)(aM:w0.heap.size<=Sb)(ak:¬C=Sb):∀(f:Nat) (w:World) (i k:Nat) (typ:yF) (seen:List Bool),yG w0 w->w.heap[C]?=some (.cells #[.pointer (some ⟨S,0,none⟩),.pointer (some ⟨V,0,none⟩),.slice (some ⟨Sb,0,none⟩) pp.length pp.length] 189 (0,0))->pp[i]?=some k->w.heap[Sb]?=some (.cells (Bw seen).toArray 4 (0,0))->seen.length=pp.length->uns seen+1<=f->
 KH w C Sb (.pointer (some ⟨k,0,none⟩)) typ (BW ⟨LO.map Prod.fst,LI.map Prod.fst,LU.map Prod.fst,roles⟩ parts f i typ seen):=by
 intro f
 induction f with
 |zero=>intro w i k typ seen _ _ _ _ _ ar;omega
 |succ f au=>
 intro w i k typ seen z y ag d ap ar;have a5:i<pp.length:=FC ag;obtain⟨P,L⟩:∃P,parts[i]?=some P:=⟨_,wS (by omega)⟩;have D:=K i P L;rw[Nat.zero_add]at D;obtain⟨a,cap,O,a6,Q⟩:=D.selAt ag;have n:=(z.block _ (Ab O)).trans O;clear O;obtain⟨v,E⟩:∃v,seen[i]?=some v:=⟨_,wS (by omega)⟩;have af:seen.getD i false=v:=by simp[List.getD,E]
 have al:Ax parts i=P:=by simp[Ax,List.getD,L]
 unfold KH;have c:=Aa (show BW ⟨LO.map Prod.fst,LI.map Prod.fst,LU.map Prod.fst,roles⟩ parts (f+1) i typ seen=(if seen.getD i false=true then(true,seen)else Fs ⟨LO.map Prod.fst,LI.map Prod.fst,LU.map Prod.fst,roles⟩ parts (BW ⟨LO.map Prod.fst,LI.map Prod.fst,LU.map Prod.fst,roles⟩ parts f) typ (Ax parts i).sels (seen.set i true))from by rw[BW]);rw[af,al]at c;generalize BW ⟨LO.map Prod.fst,LI.map Prod.fst,LU.map Prod.fst,roles⟩ parts (f+1) i typ seen=F at*;have aJ:=Ac n;have aY:=Ab n;have aH:=Ac y;have bc:=Ab y;have aI:w.cell? ⟨Sb,i,none⟩=some (.bool v):=(Ac d i).trans (Nj seen i v E);have aL:=Ak d;have bd:=Ab d;have ah:¬k=Sb:=Eg n d (by decide);have a4:(i:Int)<pp.length:=by omega
 cases v
 ·rw[xG (by simp)]at c
  have aC:=Aa (show(w.setCell ⟨Sb,i,none⟩ (.bool true)).heap[Sb]?=some (.cells (Bw (seen.set i true)).toArray 4 (0,0))from by rw[<-OF];exact AI d i _);have aV:=KD seen i E;have bb:uns (seen.set i true)+1<=f:=by omega
  have aS:(seen.set i true).length=pp.length:=by simp[ap]
  have ax:=Aa au;have G:=Aa y;have Z:=Aa d;have U:=Aa n;have aD:=Aa Q;have aw:=Aa z;have aE:=Aa ab;have aG:=Aa aq;have aA:=Aa K;have az:=Aa aj;have a0:=Aa (show Ag Sb w (w.setCell ⟨Sb,i,none⟩ (.bool true))from(Ag.refl Sb w).setCell i _);have J:=Aa ak;have aO:=z.size;generalize aT:seen.set i true=st1 at*;obtain⟨j,Y⟩:∃j,Hi (j=Fs ⟨LO.map Prod.fst,LI.map Prod.fst,LU.map Prod.fst,roles⟩ parts (BW ⟨LO.map Prod.fst,LI.map Prod.fst,LU.map Prod.fst,roles⟩ parts f) typ P.sels st1):=⟨_,Aa rfl⟩;rw[<-Y.o]at c;clear aT Q D n L af al E ar ap aV au y d z ab aq K aj ak;go_enter func74,ntmps74;go_wp2;go_quiet (fail);go_wp2;go_cut [] (fun wc=>Ag Sb w wc/\wc.heap[Sb]?=some (.cells (Bw st1).toArray 4 (0,0)))
  case first=>
   go_region;all_goals(
    (try go_wp2_with fail)
    go_meet;exact⟨((Ag.of_below (by first|exact below_drewN (wR _ _) _|exact(below_drewN (wR _ _) _).drew|exact(wR _ _).drew|exact wR _ _)).setCell i _),aC.o⟩)
  case rest=>
  obtain⟨A,ae⟩:=hcut;have ay:=Aa A;have a2:=Ac (A.at U.o ah);have bg:=xA aY A.size;have aF:=Aa ae;clear A ae aH aJ aI aL;go_wp2;go_loopg [7,32] P.sels.length (fun m v7 v32 wr=>∃(t:Nat) (b:List Bool),v32=.int .i64 t/\t<=P.sels.length/\P.sels.length-t<=m/\Ag Sb w wr/\wr.heap[Sb]?=some (.cells (Bw b).toArray 4 (0,0))/\b.length=pp.length/\uns b<=uns st1/\j=Fs ⟨LO.map Prod.fst,LI.map Prod.fst,LU.map Prod.fst,roles⟩ parts (BW ⟨LO.map Prod.fst,LI.map Prod.fst,LU.map Prod.fst,roles⟩ parts f) typ (P.sels.drop t) b)
  case atStart=>exact⟨0,st1,rfl,wZ _,wQ _,ay.o,aF.o,aS,wQ _,Y.o⟩
  case round=>
   obtain⟨t,b,rfl,a8,a9,h,l,aR,ba,hrel⟩:=hrel;have s:=Aa hrel;have X:=Aa h;have aB:=Aa l;have aX:=Ab l;have e:yG w0 wr:=aw.o.trans (h.below aM aO);have B:=h.at U.o ah;have a1:=Ac B;have bf:=Ab B;by_cases ai:t<P.sels.length
   ·have R:=wS ai
    have N:P.sels.drop t=P.sels[t]::P.sels.drop (t+1):=xX ai;generalize P.sels[t]=x at R N;obtain⟨g,aN,a3,am⟩:=aD.o t x R;subst aN;have ao:Fg wr B0 pp g (t*6) x:=am.below e;have I:=Aa (iI (typ:=typ) (aE.o.below e) (aG.o.below e) (h.at G.o J.o) ao l (aA.o.typ' (AA.below e)) az.o (rec:=BW ⟨LO.map Prod.fst,LI.map Prod.fst,LU.map Prod.fst,roles⟩ parts f) (fun W M p aW aK _ aQ=>ax.o W p aW aK b (e.trans (M.mono e.size)) ((M.block _ (Ab (h.at G.o J.o))).trans (h.at G.o J.o)) aQ ((M.block _ aX).trans l) aR (by omega)));have aP:=Rz (QP ⟨LO.map Prod.fst,LI.map Prod.fst,LU.map Prod.fst,roles⟩ parts f) ⟨LO.map Prod.fst,LI.map Prod.fst,LU.map Prod.fst,roles⟩ parts x typ b;rw[N]at s;have q:=Aa (show j=if (Dn ⟨LO.map Prod.fst,LI.map Prod.fst,LU.map Prod.fst,roles⟩ parts (BW ⟨LO.map Prod.fst,LI.map Prod.fst,LU.map Prod.fst,roles⟩ parts f) x typ b).1=true then Fs ⟨LO.map Prod.fst,LI.map Prod.fst,LU.map Prod.fst,roles⟩ parts (BW ⟨LO.map Prod.fst,LI.map Prod.fst,LU.map Prod.fst,roles⟩ parts f) typ (P.sels.drop (t+1)) (Dn ⟨LO.map Prod.fst,LI.map Prod.fst,LU.map Prod.fst,roles⟩ parts (BW ⟨LO.map Prod.fst,LI.map Prod.fst,LU.map Prod.fst,roles⟩ parts f) x typ b).2 else(false,(Dn ⟨LO.map Prod.fst,LI.map Prod.fst,LU.map Prod.fst,roles⟩ parts (BW ⟨LO.map Prod.fst,LI.map Prod.fst,LU.map Prod.fst,roles⟩ parts f) x typ b).2)from by rw[s.o,Fs]);generalize Dn ⟨LO.map Prod.fst,LI.map Prod.fst,LU.map Prod.fst,roles⟩ parts (BW ⟨LO.map Prod.fst,LI.map Prod.fst,LU.map Prod.fst,roles⟩ parts f) x typ b=r at*;obtain⟨aZ,st2⟩:=r;simp only[]at I aP q;have a7:(t:Int)<P.sels.length:=by omega
    clear R N s hrel l h e B ao am;go_wp2_with fail;refine I.o.mono ?_;rintro _ w5 ⟨rfl,ad,av⟩;have aa:=Aa ad;have T:=Aa (X.o.trans av);clear ad av I;cases aZ
    ·have H:=Aa (show j=(false,st2)from q.o)
     rw[H.o]at c;have u:=Aa (show F=(false,st2)from c.o);go_wp2;go_ret;rw[u.o];exact⟨rfl,aa.o,T.o⟩
    ·have H:=Aa (show j=Fs ⟨LO.map Prod.fst,LI.map Prod.fst,LU.map Prod.fst,roles⟩ parts (BW ⟨LO.map Prod.fst,LI.map Prod.fst,LU.map Prod.fst,roles⟩ parts f) typ (P.sels.drop (t+1)) st2 from q.o)
     go_wp2;go_roundg (P.sels.length-(t+1))
     case measure=>omega
     case rel=>exact⟨t+1,st2,by go_num,by omega,wQ _,T.o,aa.o,by omega,by omega,H.o⟩
   ·have aU:t=P.sels.length:=by omega
    subst aU;have q:=Aa (show j=(true,b)from by rw[s.o,List.drop_length];rfl);rw[q.o]at c;have u:=Aa (show F=(true,b)from c.o);clear l h B s hrel e;go_wp2;go_ret;rw[u.o];exact⟨rfl,aB.o,X.o⟩
 ·rw[xH rfl]at c
  have Z:=Aa d;have u:=Aa (show F=(true,seen)from c.o);clear d Q D n;go_enter func74,ntmps74;go_wp2;go_quiet (fail);go_wp2;go_ret;rw[u.o];exact⟨rfl,Z.o,Ag.of_below (below_drewN (wR _ _) _)⟩
end
theorem euA:prog.underlying 236=some (.struct (prog.fieldsOf 236)):=by kernel_rfl
theorem shA:prog.stoodInHeld 236=false:=by kernel_rfl
theorem egA:prog.eqGuardType prog.depth 236=false:=by kernel_rfl
theorem fsA:(prog.fieldsOf 236).toList.map (fun f=>(f.name,f.type,f.offset))=[("Name",9,0),("Value",154,1)]:=by kernel_rfl
theorem XH(n:yF)(a b:Int)(c:yF)(w:World):(part 154 #[.string n,.int .i64 a,.int .i64 b,.string c] 1).run prog w=.ok (.agg #[.int .i64 a,.int .i64 b,.string c]) w:=by kernel_rfl
theorem eK(w:World)(d:Nat)(a b e f:Int)(c g:yF):
 (Op.equalIn (d+2) 154 (.agg #[.int .i64 a,.int .i64 b,.string c]) (.agg #[.int .i64 e,.int .i64 f,.string g])).run prog w=.ok ((a==e)&&((b==f)&&(c.toList==g.toList))) w:=by
 rw[run_equalIn_struct w (d+1) 154 _ _ eu168 sh168];have h:=fs168;generalize (prog.fieldsOf 154).toList=l at h;rcases l with _|⟨m,_|⟨f1,_|⟨n,_|⟨v,l⟩⟩⟩⟩;all_goals first
  |(exfalso;have:=congrArg List.length h;simp at this;done)
  |skip
 ·simp only[List.map_cons,List.map_nil,List.cons.injEq,Prod.mk.injEq,and_true]at h
  obtain⟨⟨p,s,i⟩,⟨q,t,j⟩,⟨r,u,k⟩⟩:=h;rw[OP w d _ _ _ m _ a e (by rw[p];decide) s eu166 pk166 (by rw[i];rfl) (by rw[i];rfl)];rw[OP w d 3 _ _ f1 _ b f (by rw[q];decide) t underlying3 pk3 (by rw[j];rfl) (by rw[j];rfl)];rw[Rm w d _ _ n _ c g (by rw[r];decide) u (by rw[k];rfl) (by rw[k];rfl)];rw[UP];cases (a==e)<;>cases (b==f)<;>cases (c.toList==g.toList)<;>rfl
def Rl(x y:Es):Bool:=(x.1.toList==y.1.toList)&&(((x.2.1:Int)==(y.2.1:Int))&&((x.2.2.1==y.2.2.1)&&(x.2.2.2.toList==y.2.2.2.toList)))
theorem eG(x y:Es):Rl x y=decide (x=y):=by
 obtain⟨n,k,m,t⟩:=x;obtain⟨g,e,f,h⟩:=y;unfold Rl;rw[Bool.eq_iff_iff];simp only[xQ,Cy,xK,beq_iff_eq,Prod.mk.injEq];constructor
 ·rintro⟨a,d,b,c⟩;exact⟨a,by omega,b,c⟩
 ·rintro⟨a,d,b,c⟩;exact⟨a,by omega,b,c⟩
theorem eJ(w:World)(n b:yF)(c d f g:Int)(e h:yF):
 (Op.equalIn 10000 236 (.agg #[.string n,.int .i64 c,.int .i64 d,.string e]) (.agg #[.string b,.int .i64 f,.int .i64 g,.string h])).run prog w=.ok ((n.toList==b.toList)&&((c==f)&&((d==g)&&(e.toList==h.toList)))) w:=by
 rw[run_equalIn_struct w 9999 236 _ _ euA shA];have a:=fsA;generalize (prog.fieldsOf 236).toList=l at a;rcases l with _|⟨j,_|⟨f1,_|⟨s,l⟩⟩⟩;all_goals first
  |(exfalso;have:=congrArg List.length a;simp at this;done)
  |skip
 ·simp only[List.map_cons,List.map_nil,List.cons.injEq,Prod.mk.injEq,and_true]at a
  obtain⟨⟨k,q,i⟩,⟨m,r,p⟩⟩:=a;rw[Rm w 9998 _ _ j _ n b (by rw[k];decide) q (by rw[i];rfl) (by rw[i];rfl)];cases (n.toList==b.toList)
  ·rfl
  ·rw[xH rfl,Op.eqFields,xH (by rw[m];decide),r,p]
   simp only[Sem.run_bind];rw[XH,Result.andThen_ok,XH,Result.andThen_ok,eK w 9997,Result.andThen_ok];cases ((c==f)&&((d==g)&&(e.toList==h.toList)))<;>simp[Op.eqFields]
section
variable {w:World} {B g o g' o':Nat} {xs ys:List Es} {vx vy:Value}
theorem eL(b:w.ownsRow B 236 4 vx xs.length (xs.flatMap aL))(c:w.ownsRow B 236 4 vy ys.length (ys.flatMap aL))(aj:xs.length<=802):
 Calls prog 214 #[vx,vy] w fun e w'=>e=.returned (.bool (decide (xs=ys)))/\yG w w':=by
 obtain⟨X,aa,rfl⟩:=An b;obtain⟨Y,ab,rfl⟩:=An c;have ae:=eJ;have ad:=egA;have I:=Aa b;have J:=Aa c;obtain⟨a,r⟩:∃a,Hi (a=decide (xs=ys)):=⟨_,Aa rfl⟩;rw[<-r.o];clear b c;by_cases l:xs.length=ys.length
 ·have z:=Aa l
  have K:((xs.length:Int)!=(ys.length:Int))=false:=by simp;omega
  clear l;go_enter func214,ntmps214;go_wp2;go_loopg [5,13] xs.length (fun m v5 v13 wr=>∃t:Nat,v13=.int .i64 t/\t<=xs.length/\xs.length-t<=m/\yG w wr/\a=decide (xs.drop t=ys.drop t))
  case atStart=>exact⟨0,rfl,wZ _,wQ _,wR _ _,r.o⟩
  case round=>
   obtain⟨t,rfl,ah,ai,hb,hrel⟩:=hrel;have i:=Aa hrel;have n:=Aa hb;by_cases C:t<xs.length
   ·have D:t<ys.length:=by have:=z.o;omega
    have b:=wS C;have s:xs.drop t=xs[t]::xs.drop (t+1):=xX C;have c:=wS D;have u:ys.drop t=ys[t]::ys.drop (t+1):=xX D;generalize xs[t]=x at b s;generalize ys[t]=y at c u;obtain⟨j,cap,E,g⟩:=Cw I.o (fun _=>rfl) t x b;have L:=(Value.slice.inj E).1;obtain⟨k,Z,F,h⟩:=Cw J.o (fun _=>rfl) t y c;have M:=(Value.slice.inj F).1;subst L M;have G:wr.cell? ⟨j,t*4,none⟩=some (.string x.1):=Ah hb (by simpa using g 0 _ rfl);have R:wr.cell? ⟨j,t*4+1,none⟩=some (.int .i64 x.2.1):=Ah hb (g 1 _ rfl);have S:wr.cell? ⟨j,t*4+2,none⟩=some (.int .i64 x.2.2.1):=Ah hb (g 2 _ rfl);have T:wr.cell? ⟨j,t*4+3,none⟩=some (.string x.2.2.2):=Ah hb (g 3 _ rfl);have H:wr.cell? ⟨k,t*4,none⟩=some (.string y.1):=Ah hb (by simpa using h 0 _ rfl);have U:wr.cell? ⟨k,t*4+1,none⟩=some (.int .i64 y.2.1):=Ah hb (h 1 _ rfl);have V:wr.cell? ⟨k,t*4+2,none⟩=some (.int .i64 y.2.2.1):=Ah hb (h 2 _ rfl);have W:wr.cell? ⟨k,t*4+3,none⟩=some (.string y.2.2.2):=Ah hb (h 3 _ rfl);have P:=wW wr _ G;have Q:=wW wr _ H;have af:(t:Int)<xs.length:=by omega
    have ag:(t:Int)<ys.length:=by omega
    obtain⟨f,q⟩:∃f,Hi (Rl x y=f):=⟨_,Aa rfl⟩;have d:=Aa (show a=(f&&decide (xs.drop (t+1)=ys.drop (t+1)))from by
     rw[i.o,s,u,<-q.o,eG,Bool.eq_iff_iff];simp)
    have N:=Aa (show(x.1.toList==y.1.toList&&((x.2.1:Int)==(y.2.1:Int)&&(x.2.2.1==y.2.2.1&&x.2.2.2.toList==y.2.2.2.toList)))=f from q.o);clear g h E F b c s u hrel hb i q;go_wp2;go_cut [24] (fun v24 wc=>v24=.bool (!f)/\yG w wc)
    case first=>
     go_region;all_goals(
      (try go_wp2_with fail)
      go_meet;refine⟨?_,by first|exact n.o.drew|exact n.o⟩;rw[<-N.o,Bool.not_and,Bool.not_and,Bool.not_and])
    case rest=>
    obtain⟨rfl,A⟩:=hcut;have v:=Aa A;clear A G R S T H U V W P Q;cases f
    ·have p:=Aa (show a=false from d.o)
     go_wp2;go_ret;rw[p.o];exact⟨rfl,v.o⟩
    ·have p:=Aa (show a=decide (xs.drop (t+1)=ys.drop (t+1))from d.o)
     go_wp2;go_roundg (xs.length-(t+1))
     case measure=>omega
     case rel=>exact⟨t+1,by go_num,by omega,wQ _,v.o,p.o⟩
   ·have O:t=xs.length:=by omega
    subst O;have d:=Aa (show a=true from by rw[i.o,List.drop_length,z.o,List.drop_length];rfl);clear hb hrel i;go_wp2;go_ret;rw[d.o];exact⟨rfl,n.o⟩
 ·have K:((xs.length:Int)!=(ys.length:Int))=true:=by simp;omega
  have d:=Aa (show a=false from by rw[r.o];exact wY (fun e=>l (by rw[e])));clear l;go_enter func214,ntmps214;go_wp2;go_ret;rw[d.o];exact⟨rfl,wR _ _⟩
theorem bD{B0:Nat}{pp:List Nat}{x y:As}(u:Fg w B0 pp g o x)(v:Fg w B0 pp g' o' y):
 Calls prog 161 #[.pointer (some ⟨g,o,none⟩),.pointer (some ⟨g',o',none⟩)] w fun e w'=>e=.returned (.bool (FY x y))/\yG w w':=by
 obtain⟨n,q,I,K,f,i⟩:=u.ex;obtain⟨p,r,J,L,h,t⟩:=v.ex;have A:w.cell? ⟨g,o+2,none⟩=some (.string x.name):=f 2 _ rfl;have G:w.cell? ⟨g,o+3,none⟩=some (.slice n x.args.length q):=f 3 _ rfl;have B:w.cell? ⟨g',o'+2,none⟩=some (.string y.name):=h 2 _ rfl;have H:w.cell? ⟨g',o'+3,none⟩=some (.slice p y.args.length r):=h 3 _ rfl;have E:=wW w _ A;have F:=wW w _ B;have k:=Aa (fun W (s:yG w W)=>eL (AT i.a s) (AT t.a s) i.al);have l:=Aa (show FY x y=((x.name.toList==y.name.toList)&&decide (x.args=y.args))from by unfold FY;rw[Cy]);generalize FY x y=j at*;simp only[]at k;generalize decide (x.args=y.args)=C at*;have m:=Aa (fun V (b:yG w V)=>xZ b (xZ (Ah b A) (xZ (Ah b G) (xZ (Ah b B) (xZ (Ah b H) (xZ (xA E b.size) (xA F b.size)))))));clear f h i t u v;cases z:(x.name.toList==y.name.toList)
 ·have d:=Aa (show j=false from by rw[l.o,z];rfl)
  go_enter func161,ntmps161;go_wp2;go_quiet (fail);go_wp2;go_ret;rw[d.o];exact⟨rfl,below_drewN (wR _ _) _⟩
 ·have d:=Aa (show j=C from by rw[l.o,z];rfl)
  go_enter func161,ntmps161;go_wp2;go_region_held3 (fun V=>yG w V/\V.cell? ⟨g,o+2,none⟩=some (.string x.name)/\V.cell? ⟨g,o+3,none⟩=some (.slice n x.args.length q)/\V.cell? ⟨g',o'+2,none⟩=some (.string y.name)/\V.cell? ⟨g',o'+3,none⟩=some (.slice p y.args.length r)/\g<V.heap.size/\g'<V.heap.size)
   (first|exact m.o _ (wR _ _).drew|exact m.o _ (bT c D))
   (first|(go_at_call 214;obtain⟨c, -⟩:= ‹yG w _/\_›;refine(k.o _ c).mono ?_;rintro _ w2 ⟨rfl,D⟩))
  all_goals(obtain⟨c, -⟩:= ‹yG w _/\_›;(try go_wp2_with fail);go_ret;rw[d.o];exact⟨rfl,c⟩)
end
section
variable {w w0:World} {B0 B1 G Mb Lb:Nat} {pp:List Nat} {parts:List Ai} {g:Bc} {vo:Value}
theorem nD(ao:Bl w0 B0 pp 0 parts)(a2:pp.length=parts.length)(aj:BP parts)(cp:pp.length<=2000)(aH:w0.heap.size<=B1)(bE:yG w0 w)(cl:B1<=w.heap.size)(am:AG w B1 G Mb Lb pp parts g vo){c:Nat}(bG:BF parts.length c g)(E:c<=5000000){i j s u:Nat}(aS:pp[i]?=some s)(aT:pp[j]?=some u):
 Calls prog 114 #[.pointer (some ⟨G,0,none⟩),.agg #[.pointer (some ⟨s,0,none⟩),.pointer (some ⟨u,0,none⟩)]] w fun e w'=>e=.returned (.bool (GV parts (i,j) g).1)/\∃N,AG w' B1 G Mb Lb pp parts (GV parts (i,j) g).2 N/\AF G Mb Lb w vo w' N:=by
 have bH:i<parts.length:=by have:=FC aS;omega
 have bI:j<parts.length:=by have:=FC aT;omega
 obtain⟨P,aK⟩:∃P,parts[i]?=some P:=⟨_,wS bH⟩;obtain⟨Q,aL⟩:∃Q,parts[j]?=some Q:=⟨_,wS bI⟩;have a3:=ao i P aK;have a5:=ao j Q aL;rw[Nat.zero_add]at a3 a5;obtain⟨cI,cO,aW,cW,bz⟩:=a3.selAt aS;obtain⟨cJ,cP,aX,cX,bB⟩:=a5.selAt aT;have a4:Ax parts i=P:=by simp[Ax,List.getD,aK]
 have a6:Ax parts j=Q:=by simp[Ax,List.getD,aL]
 have b7:=Aa (show GV parts (i,j) g=GU parts Q.sels P.sels g from by unfold GV;rw[a4,a6]);generalize GV parts (i,j) g=X at*;have bZ:=Aa (fun(W:World) (J:yG w0 W) (ch:B1<=W.heap.size) (v:Bc) (v':Value) (D:AG W B1 G Mb Lb pp parts v v') (cn:BF parts.length c v) (a b U V:Nat) (L:pp[a]?=some U) (hb:pp[b]?=some V)=>VG ao a2 aj cp aH J ch D cn E L hb);have b4:=Aa (fun x (n:x∈P.sels) a (e:x.part=some a)=>(show a<parts.length from aj.d i x (by rw[a4];exact n) a e));have b8:=Aa (fun x (n:x∈Q.sels) a (e:x.part=some a)=>(show a<parts.length from aj.d j x (by rw[a6];exact n) a e));have b5:=Aa aj;have bl:=Aa a2;have cD:=Aa am;have bX:=Aa bG;have O:=Aa bE;have b6:=Aa bz;have b9:=Aa bB;have bj:=Aa aW;have bk:=Aa aX;have R:=Aa (show yG w (w.alloc (.cells #[.pointer (some ⟨s,0,none⟩),.pointer (some ⟨u,0,none⟩)] 247))from bA (wR _ _) _);have aB:=Aa (wX w (.cells #[.pointer (some ⟨s,0,none⟩),.pointer (some ⟨u,0,none⟩)] 247));have ax:=Aa (am.below R.o);have bi:=Aa (AF.of_below (G:=G) (Mb:=Mb) (Lb:=Lb) (vo:=vo) R.o);have b1:=Aa (fun(aE Y:World) (bb cA:Value) (cg:Bc) (D:AG aE B1 G Mb Lb pp parts cg bb) (co:∀k,bb.ownBlock=some k->vo.ownBlock=some k\/(w.alloc (.cells #[.pointer (some ⟨s,0,none⟩),.pointer (some ⟨u,0,none⟩)] 247)).heap.size<=k) (cm:AF G Mb Lb aE bb Y cA) (n:aE.heap[w.heap.size]?=some (.cells #[.pointer (some ⟨s,0,none⟩),.pointer (some ⟨u,0,none⟩)] 247 (0,0)))=>(cm.blk w.heap.size (Ab n) (Eg n D.b (by decide)) (Eg n D.m (by decide)) (fun e=>by obtain⟨cs,q,_⟩:=D.l;exact Eg n q (by decide) e) (fun e=>by
  rcases co _ e with q|q
  ·have:=(am.o.lt _ q).2;omega
  ·simp at q;omega)).trans n)
 have ci:B1<=(w.alloc (.cells #[.pointer (some ⟨s,0,none⟩),.pointer (some ⟨u,0,none⟩)] 247)).heap.size:=wV cl R.o.size;have bJ:s<w0.heap.size:=Ab aW;have bK:u<w0.heap.size:=Ab aX;clear ao a2 aj bE am bG aS aT bH bI a3 a5 aW aX bz bB a4 a6 aK aL;go_enter func114,ntmps114;go_upto_region 1 with fail;generalize w.alloc (.cells #[.pointer (some ⟨s,0,none⟩),.pointer (some ⟨u,0,none⟩)] 247)=br at*;have c1:=Ac aB.o;have c5:=Ab aB.o;have bF:=O.o.trans (R.o.mono O.o.size);have aV:=(bF.block _ bJ).trans bj.o;have cQ:=Ac aV;have c8:=Ab aV;clear bF aV;go_wp2;go_loopg [5,6,7,8,15,24] P.sels.length (fun m v5 v6 v7 v8 v15 v24 wr=>∃(t:Nat) (v:Bc) (N:Value),v15=.int .i64 t/\t<=P.sels.length/\P.sels.length-t<=m/\AG wr B1 G Mb Lb pp parts v N/\AF G Mb Lb br vo wr N/\BF parts.length c v/\wr.heap[w.heap.size]?=some (.cells #[.pointer (some ⟨s,0,none⟩),.pointer (some ⟨u,0,none⟩)] 247 (0,0))/\X=GU parts Q.sels (P.sels.drop t) v)
 case atStart=>exact⟨0,g,vo,rfl,wZ _,wQ _,ax.o,AF.refl _ _ _ _ _,bX.o,aB.o,b7.o⟩
 case round=>
  obtain⟨t,v,N,rfl,c3,c4,D,hF,aI,ah,hrel⟩:=hrel;have ab:=Aa hrel;have bc:=Aa D;have bh:=Aa hF;have bW:=Aa aI;have b2:=Aa ah;have aN:yG w0 wr:=(O.o.trans (R.o.mono O.o.size)).trans ((hF.below ax.o).mono aH);have cU:=Ac ah;have ln:=Ab ah;have aw:=(aN.block _ bK).trans bk.o;have cS:=Ac aw;have da:=Ab aw;by_cases aY:t<P.sels.length
  ·have n:=wS aY
   have aO:P.sels.drop t=P.sels[t]::P.sels.drop (t+1):=xX aY;have a0:P.sels[t]∈P.sels:=List.getElem_mem aY;generalize P.sels[t]=x at n aO a0;obtain⟨ad,cd,c6,bL⟩:=b6.o t x n;subst cd;have bn:=Aa bL;have bp:=Aa (b4.o x a0);rw[aO]at ab;obtain⟨r,bm⟩:∃r,Hi (r=DM parts x Q.sels v):=⟨_,Aa rfl⟩;have S:=Aa (show X=if r.1=true then GU parts Q.sels (P.sels.drop (t+1)) r.2 else(false,r.2)from by rw[ab.o,GU,bm.o]);clear D hF aI ah n aO a0 ab hrel aw aN bL;go_wp2_with fail;obtain⟨bP,cw⟩:∃bP:World,bP=wr:=⟨_,rfl⟩;clear cw;go_loopg [6,7,8,24] Q.sels.length (fun m v6 v7 v8 v24 wr=>∃(f:Nat) (h:Bc) (B:Value),v24=.int .i64 f/\f<=Q.sels.length/\Q.sels.length-f<=m/\AG wr B1 G Mb Lb pp parts h B/\AF G Mb Lb br vo wr B/\BF parts.length c h/\wr.heap[w.heap.size]?=some (.cells #[.pointer (some ⟨s,0,none⟩),.pointer (some ⟨u,0,none⟩)] 247 (0,0))/\r=DM parts x (Q.sels.drop f) h)
   case atStart=>exact⟨0,v,N,rfl,wZ _,wQ _,bc.o,bh.o,bW.o,b2.o,bm.o⟩
   case round=>
    obtain⟨f,h,B,rfl,cZ,c0,aG,af,aJ,ai,a7⟩:=hrel;have H:=Aa a7;have ay:=Aa aG;have aA:=Aa af;have T:=Aa aJ;have aC:=Aa ai;have M:yG w0 wr:=(O.o.trans (R.o.mono O.o.size)).trans ((af.below ax.o).mono aH);have ak:=Aa M;have cj:B1<=wr.heap.size:=wV ci af.size;have cV:=Ac ai;have bN:=Ab ai;have au:=(M.block _ bJ).trans bj.o;have cR:=Ac au;have c9:=Ab au;have av:=(M.block _ bK).trans bk.o;have cT:=Ac av;have db:=Ab av;by_cases aZ:f<Q.sels.length
    ·have a8:=wS aZ
     have aP:Q.sels.drop f=Q.sels[f]::Q.sels.drop (f+1):=xX aZ;have a1:Q.sels[f]∈Q.sels:=List.getElem_mem aZ;generalize Q.sels[f]=y at a8 aP a1;obtain⟨ae,ce,c7,bM⟩:=b9.o f y a8;have bo:=Aa bM;have bq:=Aa (b8.o y a1);rw[aP]at H;have bg:=Aa (fun(E:¬(x.kind=0/\y.kind=0/\x.key=y.key))=>(show r=DM parts x (Q.sels.drop (f+1)) h from by rw[H.o,DM,xG E]));have al:=Aa (fun(E:x.kind=0/\y.kind=0/\x.key=y.key) (L:FY x y=false)=>(show r=(false,h)from by rw[H.o,DM,xH E,xG (by rw[L];simp)]));have F:=Aa (fun(E:x.kind=0/\y.kind=0/\x.key=y.key) (L:FY x y=true) a b (cb:x.part=some a) (cc:y.part=some b)=>(show r=DM parts x (Q.sels.drop (f+1)) (GT parts a b h)from by rw[H.o,DM,xH E,xH L,cb,cc]));have C:=Aa (fun(E:x.kind=0/\y.kind=0/\x.key=y.key) (L:FY x y=true) (e:x.part=none\/y.part=none)=>(show r=DM parts x (Q.sels.drop (f+1)) h from by
      rw[H.o,DM,xH E,xH L];rcases e with e|e
      ·rw[e]
      ·rw[e];cases x.part<;>rfl))
     subst ce;obtain⟨cE,cK,cG,cM,ap,cq⟩:=(bn.o.below M).ex;obtain⟨cF,cL,cH,cN,aq,cr⟩:=(bo.o.below M).ex;have bQ:wr.cell? ⟨ad,t*6,none⟩=some (.int .i64 x.kind):=by simpa using ap 0 _ rfl
     have cB:wr.cell? ⟨ad,t*6+1,none⟩=some (.string x.key):=ap 1 _ rfl;have bs:=Aa (show wr.cell? ⟨ad,t*6+5,none⟩=some (AO pp x.part)from ap 5 _ rfl);have bS:wr.cell? ⟨ae,f*6,none⟩=some (.int .i64 y.kind):=by simpa using aq 0 _ rfl
     have cC:wr.cell? ⟨ae,f*6+1,none⟩=some (.string y.key):=aq 1 _ rfl;have bu:=Aa (show wr.cell? ⟨ae,f*6+5,none⟩=some (AO pp y.part)from aq 5 _ rfl);have cx:=wW wr _ bQ;have cy:=wW wr _ bS;have c2:(t:Int)<P.sels.length:=by omega
     have cY:(f:Int)<Q.sels.length:=by omega
     clear aG af aJ ai M a8 aP a1 H a7 au av bM ap cq aq cr;by_cases A:x.kind=0/\y.kind=0/\x.key=y.key
     ·have a9:((x.kind:Int)!=0)=false:=by rw[A.1];rfl
      have bO:((y.kind:Int)!=0)=false:=by rw[A.2.1];rfl
      have cz:(x.key.toList==y.key.toList)=true:=by rw[Cy];exact xM A.2.2
      have al:=Aa (al.o A);have F:=Aa (F.o A);have C:=Aa (C.o A);have bd:=Aa (fun W (J:yG wr W)=>bD ((bn.o.below ak.o).below J) ((bo.o.below ak.o).below J));generalize FY x y=ca at*;clear A bg;go_wp2;go_quiet (fail);obtain⟨K,ag⟩:∃K,K=nq:=⟨_,rfl⟩;rw[<-ag];clear ag nq;go_wp2;go_quiet (fail);go_wp2_with fail;refine(bd.o _ (below_drewN (wR wr.heap.size wr) (K+nq))).mono ?_;rintro _ w5 ⟨rfl,bw⟩;have z:=(below_drewN (wR wr.heap.size wr) (K+nq)).trans bw;have Z:=Aa (ay.o.below z);have aa:=Aa (aA.o.trans (AF.of_below z));have aD:=Aa ((z.block _ bN).trans aC.o);have bt:=Aa (Ah z bs.o);have bv:=Aa (Ah z bu.o);have dc:=xA cx z.size;have dd:=xA cy z.size;have bf:=Aa (ak.o.trans (z.mono ak.o.size));have ck:B1<=w5.heap.size:=wV cj z.size;clear bw z bQ cB bS cC bs bu bd;cases ca
      ·have p:=Aa (al.o rfl)
       rw[p.o]at S;have az:=Aa (show X=(false,h)from S.o);go_wp2;go_ret;rw[az.o];exact⟨rfl,_,Z.o,bi.o.trans aa.o⟩
      ·have F:=Aa (F.o rfl)
       have C:=Aa (C.o rfl);clear al;cases ex:x.part with
       |none=>
        have p:=Aa (C.o (.inl ex));have bR:w5.cell? ⟨ad,t*6+5,none⟩=some (.pointer none):=by have:=bt.o;rw[ex]at this;exact this
        clear ex F C;go_wp2;go_roundg (Q.sels.length-(f+1))
        case measure=>omega
        case rel=>exact⟨f+1,h,B,by go_num,by omega,wQ _,Z.o,aa.o,T.o,aD.o,p.o⟩
       |some a=>
        obtain⟨U,ar⟩:∃U,pp[a]?=some U:=⟨_,wS (by have:=bp.o a ex;have:=bl.o;omega)⟩;have bR:w5.cell? ⟨ad,t*6+5,none⟩=some (.pointer (some ⟨U,0,none⟩)):=by have:=bt.o;rw[ex]at this;rw[this];simp[AO,ar]
        cases I:y.part with
        |none=>
         have p:=Aa (C.o (.inr I));have bT:w5.cell? ⟨ae,f*6+5,none⟩=some (.pointer none):=by have:=bv.o;rw[I]at this;exact this
         clear ex I F C ar;go_wp2;go_roundg (Q.sels.length-(f+1))
         case measure=>omega
         case rel=>exact⟨f+1,h,B,by go_num,by omega,wQ _,Z.o,aa.o,T.o,aD.o,p.o⟩
        |some b=>
         obtain⟨V,aU⟩:∃V,pp[b]?=some V:=⟨_,wS (by have:=bq.o b I;have:=bl.o;omega)⟩;have bT:w5.cell? ⟨ae,f*6+5,none⟩=some (.pointer (some ⟨V,0,none⟩)):=by have:=bv.o;rw[I]at this;rw[this];simp[AO,aU]
         have p:=Aa (F.o a b ex I);have bY:=Aa (NA b5.o (bp.o a ex) (bq.o b I) T.o);have b0:=Aa (fun W (J:yG w5 W)=>bZ.o W (bf.o.trans (J.mono bf.o.size)) (wV ck J.size) h B (Z.o.below J) T.o a b U V ar aU);generalize GT parts a b h=cf at*;clear ex I F C ar aU;go_wp2;go_region_with (go_at_call 113;refine(b0.o _ ?_).mono ?_;(first|exact(wR _ _).drew|exact wR _ _);rintro _ w6 ⟨rfl,ba,bC,aQ⟩);all_goals(
          have aR:AF G Mb Lb w5 B w6 ba:=(by first|exact aQ|exact(AF.of_below (wR w5.heap.size w5).drew).trans aQ);have bU:=Aa bC;have bV:=Aa (aa.o.trans aR);have b3:=Aa (b1.o w5 w6 B ba h Z.o aa.o.li aR aD.o);clear bC aQ aR bR bT;go_wp2;go_roundg (Q.sels.length-(f+1))
          case measure=>omega
          case rel=>exact⟨f+1,cf,ba,by go_num,by omega,wQ _,bU.o,bV.o,bY.o,b3.o,p.o⟩)
     ·have p:=Aa (bg.o A)
      have ct:((x.kind:Int)!=0)=true\/(((x.kind:Int)!=0)=false/\((y.kind:Int)!=0)=true)\/(((x.kind:Int)!=0)=false/\((y.kind:Int)!=0)=false/\(x.key.toList==y.key.toList)=false):=by
       by_cases aF:x.kind=0
       ·by_cases bx:y.kind=0
        ·exact .inr (.inr ⟨by rw[aF];rfl,by rw[bx];rfl,by rw[Cy];exact wY (fun e=>A ⟨aF,bx,e⟩)⟩)
        ·exact .inr (.inl ⟨by rw[aF];rfl,by simp;omega⟩)
       ·exact .inl (by simp;omega)
      clear A;rcases ct with a9|⟨a9,bO⟩|⟨a9,bO,cz⟩;all_goals(
       go_wp2;go_quiet (fail);obtain⟨K,ag⟩:∃K,K=nq:=⟨_,rfl⟩;rw[<-ag];clear ag nq;go_wp2;go_quiet (fail);go_wp2;go_roundg (Q.sels.length-(f+1))
       case measure=>omega
       case rel=>
        have aM:=below_drewN (wR wr.heap.size wr) (K+nq);exact⟨f+1,h,B,by go_num,by omega,wQ _,ay.o.below aM,aA.o.trans (AF.of_below aM),T.o,(aM.block _ bN).trans aC.o,p.o⟩)
    ·have cv:f=Q.sels.length:=by omega
     subst cv;have p:=Aa (show r=(true,h)from by rw[H.o,List.drop_length];rfl);rw[p.o]at S;have az:=Aa (show X=GU parts Q.sels (P.sels.drop (t+1)) h from S.o);clear aG af aJ ai a7 H M au av;go_wp2;go_roundg (P.sels.length-(t+1))
     case measure=>omega
     case rel=>exact⟨t+1,h,B,by go_num,by omega,wQ _,ay.o,aA.o,T.o,aC.o,az.o⟩
  ·have cu:t=P.sels.length:=by omega
   subst cu;have S:=Aa (show X=(true,v)from by rw[ab.o,List.drop_length];rfl);clear D hF aI ah hrel ab aN aw;go_wp2;go_ret;rw[S.o];exact⟨rfl,_,bc.o,bi.o.trans bh.o⟩
end
theorem pT{w:World}{B e n k cap size:Nat}{a:Option Addr}{xs:List Value}(f:w.ownsRow B e size (.slice a n cap) n xs)(q:k<=n):w.ownsRow B e size (.slice a k cap) k (xs.take (k*size)):=by
 have s:xs.length=n*size:=f.1;have r:k*size<=n*size:=Nat.mul_le_mul_right _ q;refine⟨by rw[List.length_take,s];omega,?_⟩;rcases f.2 with⟨b,t⟩|⟨g,c,h,b,m,p,u,i,j,l⟩
 ·have d:=Value.slice.inj b
  obtain⟨rfl,rfl,rfl⟩:=d;have:k=0:=by omega
  subst this;exact .inl ⟨rfl,rfl⟩
 ·have d:=Value.slice.inj b
  obtain⟨rfl, -,rfl⟩:=d;refine .inr ⟨g,cap,h,rfl,m,p,by omega,i,j,?_⟩;rw[<-l,List.take_take,Nat.min_eq_left r]
theorem Vg{β:Type}(flat:β->List Value)(size:Nat)(a:∀x,(flat x).length=size):∀(l:List β) (k:Nat),(l.flatMap flat).take (k*size)=(l.take k).flatMap flat
 |[],k=>by simp
 |x::l,0=>by simp
 |x::l,k+1=>by
  rw[List.flatMap_cons,List.take_succ_cons,List.flatMap_cons,List.take_append,a,Nat.succ_mul];rw[xB (by rw[a];omega),show k*size+size-size=k*size by omega,Vg flat size a l k]
theorem infoSP:(prog.info? 110).map (fun i=>(i.zero,i.size,i.bytes))=some (some (.slice none 0 0),1,24):=by kernel_rfl
section
variable {w X:World} {B1 G Mb Lb:Nat} {pp:List Nat} {parts:List Ai} {g:Bc} {vo:Value}
theorem AG.pop(d:AG X B1 G Mb Lb pp parts g vo){a:Option Addr}{cap k:Nat}(y:vo=.slice a g.2.length cap)(r:k+1=g.2.length):AG (X.setCell ⟨G,0,none⟩ (.slice a k cap)) B1 G Mb Lb pp parts (g.1,g.2.dropLast) (.slice a k cap)/\AF G Mb Lb X vo (X.setCell ⟨G,0,none⟩ (.slice a k cap)) (.slice a k cap):=by
 subst y;obtain⟨cs,p,t,u⟩:=d.l;have s:∀{e:TypeId} {size n:Nat} {v:Value} {xs:List Value},X.ownsRow B1 e size v n xs->e≠244->(X.setCell ⟨G,0,none⟩ (.slice a k cap)).ownsRow B1 e size v n xs:=fun f w=>IF f (fun j h _=>xC _ _ _ _ (show j≠G from fun e=>By f d.b (fun q=>w q.symm) (by rw[<-e];exact h)));have f:=pT (k:=k) d.o (by omega);rw[Vg (Mu pp) 2 (fun _=>rfl)]at f;have hd:g.2.take k=g.2.dropLast:=by rw[List.dropLast_eq_take];congr 1;omega
 rw[hd]at f;refine⟨⟨AI d.b 0 _,by show(X.setCell _ _).ownsRow B1 _ 2 _ g.2.dropLast.length _;rw[show g.2.dropLast.length=k by rw[List.length_dropLast];omega];exact s f (by decide),Ed d.m (Eg d.m d.b (by decide)) _,⟨cs,Ed p (Eg p d.b (by decide)) _,t,fun i x=>(u i x).imp (fun e=>e) (fun⟨a,c,e,o⟩=>⟨a,c,e,s o (by decide)⟩)⟩,d.lg,d.lm,d.ll⟩,rfl,rfl,rfl,by simp[World.setCell],fun k _ r _ _ _=>xC _ _ _ _ r,fun j h=>.inl (by cases a with|none=>exact h|some z=>exact h)⟩
end
theorem Sd(n:Nat):(madeCells #[.slice none 0 0] n).size=n/\∀i,i<n->(madeCells #[.slice none 0 0] n)[i]?=some (.slice none 0 0):=by
 have a:(madeCells #[.slice none 0 0] n).toList=List.replicate n (.slice none 0 0):=by rw[toList_madeCells_one]
 refine⟨by rw[<-Array.length_toList,a];simp,fun i b=>?_⟩;rw[<-Array.getElem?_toList,a];simp[b]
theorem AG.start{X:World}{B1 G Mb Lb:Nat}{pp:List Nat}{parts:List Ai}(d:X.heap[G]?=some (.cells #[.slice none 0 0,.slice (some ⟨Mb,0,none⟩) (pp.length*pp.length) (pp.length*pp.length),.slice (some ⟨Lb,0,none⟩) pp.length pp.length] 244 (0,0)))(f:X.heap[Mb]?=some (.cells (madeCells #[.bool false] (pp.length*pp.length)) 4 (0,0)))(e:X.heap[Lb]?=some (.cells (madeCells #[.slice none 0 0] pp.length) 110 (0,0)))(a:B1<=G)(b:B1<=Mb)(c:B1<=Lb):AG X B1 G Mb Lb pp parts (List.replicate (pp.length*pp.length) false,[]) (.slice none 0 0):=
 ⟨d,xF _ _ _ _,by rw[<-NK];exact f,⟨_,e,(Sd _).1,fun i g=>.inl ((Sd _).2 i g)⟩,a,b,c⟩
theorem ZQ{w:World}{B0 q:Nat}{Q:Qy}{d:List Nat}(A:Fe w B0 q Q d)(aK:BP Q.parts){aQ:List Eb}{whole:Nat}(ad:Q.ops=[(aQ,whole)]):
 Calls prog 75 #[.pointer (some ⟨q,0,none⟩)] w fun e w'=>e=.returned (.bool (KP Q.parts whole))/\yG w w':=by
 obtain⟨bX,bW,bY,av,S,az,B,T,aA,a5⟩:=A.ex;obtain⟨bp,bu,rfl⟩:=An az;obtain⟨bo,bs,rfl⟩:=An T;have J:=A.l3;obtain⟨y,a6⟩:∃y,av=[y]:=by
  rw[ad]at B;cases av with
  |nil=>cases B
  |cons y l=>cases l with
   |nil=>exact⟨y,rfl⟩
   |cons z l=>simp at B
 subst a6;have af:y.1=(aQ,whole):=by rw[ad]at B;simpa using B
 have bg:whole<d.length:=by have:=(aA y yB).p;rw[af]at this;exact this
 obtain⟨ag,aa⟩:∃ag,d[whole]?=some ag:=⟨_,wS bg⟩;obtain⟨a4,bv,aM,aG⟩:=Cw T (fun _=>rfl) 0 y rfl;have a1:=(Value.slice.inj aM).1;subst a1;have O:w.cell? ⟨a4,1,none⟩=some (.pointer (some ⟨ag,0,none⟩)):=by have:=aG 1 _ rfl;simpa [oL,af,AO,aa]using this
 have bb:d.length*d.length<=4000000:=wV (Nat.mul_le_mul J J) (by decide);have ba:=run_make_row' (P:=prog) 142 4 (.bool false) 1 underlying142 info4 rfl .i64 .i64 (d.length*d.length) (by omega) (by omega);have bN:=run_make_row' (P:=prog) 241 110 (.slice none 0 0) 24 underlying241 infoSP rfl .i64 .i64 d.length (by omega) (by omega);rw[Int.natCast_mul]at ba;have bC:(0:Int)<=(d.length:Int)*(d.length:Int):=by rw[<-Int.natCast_mul];omega
 have bD:(d.length:Int)*(d.length:Int)<=4000000:=by rw[<-Int.natCast_mul];omega
 have aw:=Ac S;have ah:=Ab S;have aO:=wW w _ O;have au:=Aa A.pt;have v:=Aa A.n;have I:=Aa aK;have ap:=Aa aa;obtain⟨u,M⟩:∃u,Hi (u=KP Q.parts whole):=⟨_,Aa rfl⟩;rw[<-M.o];have bn:=Aa (Sd d.length);have bO:=Aa A.n;generalize Q.parts=parts at*;clear A S az B T aA a5 af aG aM aK ad aa;go_enter func75,ntmps75;go_wp2;go_cut [4] (fun v4 wc=>∃G Mb Lb,v4=.pointer (some ⟨G,0,none⟩)/\AG wc w.heap.size G Mb Lb d parts (List.replicate (d.length*d.length) false,[]) (.slice none 0 0)/\yG w wc)
 case first=>
  go_region;all_goals(
   (try go_wp2_with fail)
   go_meet;first
    |exact⟨w.heap.size+1+1,w.heap.size,w.heap.size+1,rfl,AG.start (Ht w _ _ _).2.2 (Ht w _ _ _).1 (Ht w _ _ _).2.1 (by omega) (by omega) (by omega),(bA (bA (bA (wR _ _) _) _) _).drew⟩
    |exact⟨w.heap.size+1+1,w.heap.size+1,w.heap.size,rfl,AG.start (Ht w _ _ _).2.2 (Ht w _ _ _).2.1 (Ht w _ _ _).1 (by omega) (by omega) (by omega),(bA (bA (bA (wR _ _) _) _) _).drew⟩)
 case rest=>
 obtain⟨G,Mb,Lb,rfl,F,hb⟩:=hcut;have aR:=Aa F;have aU:=Aa hb;have bz:=fun i=>(hb.cell (p:=⟨q,i,none⟩) ah).trans (aw i);have bU:=xA ah hb.size;have bt:=Ah hb O;have bS:=xA aO hb.size;have al:=Aa (show BF parts.length (d.length*d.length) (List.replicate (d.length*d.length) false,[])from⟨by rw[List.length_replicate,v.o],fun p bc=>(by cases bc),by rw[Jl];simp⟩);have ao:=Aa (VG (B1:=w.heap.size) au.o v.o I.o J (wQ _) hb hb.size F al.o (by omega) ap.o ap.o);have aW:=Aa (NA I.o (show whole<parts.length by have:=v.o;omega) (show whole<parts.length by have:=v.o;omega) al.o);have aZ:=Aa (show u=IW parts (d.length*d.length+1) (GT parts whole whole (List.replicate (d.length*d.length) false,[]))from by rw[M.o];unfold KP;rw[v.o]);generalize GT parts whole whole (List.replicate (d.length*d.length) false,[])=a3 at*;clear F hb aw ah O aO M;go_wp2_with fail;refine ao.o.mono ?_;rintro _ w3 ⟨rfl,bk,aE,aH⟩;have aS:=Aa aE;have aV:=Aa (show yG w w3 from aU.o.trans (aH.below aR.o));clear aE aH ao;have aY:=Aa (fun(W:World) (aD:yG w W) (g:Bc) (v':Value) (h:AG W w.heap.size G Mb Lb d parts g v') (c:Nat) (a8:BF parts.length c g) (a7:c<=5000000) (a b j s:Nat) (F:d[a]?=some j) (hb:d[b]?=some s)=>nD (B1:=w.heap.size) au.o v.o I.o J (wQ _) aD aD.size h a8 a7 F hb);go_wp2;go_loopg [6,7] (d.length*d.length) (fun m v6 v7 wr=>∃(g:Bc) (aP:Value) (c f:Nat),AG wr w.heap.size G Mb Lb d parts g aP/\yG w wr/\BF parts.length c g/\c<=m/\c+1<=f/\c<=4000000/\u=IW parts f g)
 case atStart=>exact⟨a3,bk,d.length*d.length,d.length*d.length+1,aS.o,aV.o,aW.o,wQ _,wQ _,bb,aZ.o⟩
 case round=>
  obtain⟨g,aP,c,f,h,hb,x,bG,bF,bE,hrel⟩:=hrel;obtain⟨bq,t,rfl⟩:=An h.o;have H:=Aa hrel;have ai:=Aa h;have K:=Aa hb;have bm:=Aa x;have br:=Ac h.b;have bB:=Ak h.b;have bR:=Ab h.b;have bM:=x.c;obtain⟨E,rfl⟩:∃E,f=E+1:=⟨f-1,by omega⟩;cases C:g.2.getLast? with
  |none=>
   have ay:g.2=[]:=List.getLast?_eq_none_iff.1 C;have D:=Aa (show u=true from by rw[H.o,IW,C]);have bP:¬0<g.2.length:=by rw[ay];simp
   clear h hb x hrel H C ay;go_wp2;go_ret;rw[D.o];exact⟨rfl,K.o⟩
  |some p=>
   have hd:g.2=g.2.dropLast++[p]:=by
    obtain⟨l,e⟩:=List.getLast?_eq_some_iff.1 C;rw[e];simp
   have a9:g.2.dropLast.length+1=g.2.length:=by have:=congrArg List.length hd;simp at this;rw[List.length_dropLast];omega
   obtain⟨k,aJ⟩:∃k,k=g.2.dropLast.length:=⟨_,rfl⟩;have ae:g.2[k]?=some p:=by rw[hd,aJ,xO (wQ _)];simp
   have aL:p∈g.2:=wT ae;have bd:=x.o p aL;obtain⟨j,Y⟩:∃j,d[p.1]?=some j:=⟨_,wS (by have:=v.o;omega)⟩;obtain⟨s,Z⟩:∃s,d[p.2]?=some s:=⟨_,wS (by have:=v.o;omega)⟩;obtain⟨go,bw,aN,X⟩:=Cw h.o (fun _=>rfl) k p ae;have a2:=(Value.slice.inj aN).1;subst a2;have bh:wr.cell? ⟨go,k*2,none⟩=some (.pointer (some ⟨j,0,none⟩)):=by have:=X 0 _ rfl;simpa [AO,Y]using this
   have bV:wr.cell? ⟨go,k*2+1,none⟩=some (.pointer (some ⟨s,0,none⟩)):=by have:=X 1 _ rfl;simpa [AO,Z]using this
   have bT:=wW wr _ bh;have bH:g.2.length<=t:=by
    rcases h.o.2 with⟨R,_⟩|⟨_,_,_,R,_,_,bi,_⟩
    ·cases R
    ·rw[(Value.slice.inj R).2.2];exact bi
   have bQ:0<g.2.length:=by omega
   have bJ:((g.2.length:Int)-1)=(k:Int):=by omega
   have bL:(k:Int)<g.2.length:=by omega
   have bK:(k:Int)<=t:=by omega
   have aX:=Aa (show k+1=g.2.length by omega);have aq:=Aa (show BF parts.length (c-1) (g.1,g.2.dropLast)from⟨x.l,fun r bf=>x.o r (by rw[hd];exact List.mem_append_left _ bf),by simp only[];omega⟩);have D:=Aa (show u=if (GV parts p (g.1,g.2.dropLast)).1=true then IW parts E (GV parts p (g.1,g.2.dropLast)).2 else false from by rw[H.o,IW,C]);have bI:g.2.length<=4000000:=by omega
   clear h x hrel H C hd a9 ae aL bd aN X aJ;go_upto_region 9 with fail;obtain⟨aB,U⟩:=ai.o.pop rfl aX.o;have V:Below (wr.setCell ⟨G,0,none⟩ (.slice (some ⟨go,0,none⟩) k t)).heap.size (wr.setCell ⟨G,0,none⟩ (.slice (some ⟨go,0,none⟩) k t)) ((wr.setCell ⟨G,0,none⟩ (.slice (some ⟨go,0,none⟩) k t)).alloc (.cells #[.pointer (some ⟨j,0,none⟩),.pointer (some ⟨s,0,none⟩)] 247)):=bA (wR _ _) _;have aC:=aB.below V;have ab:((wr.setCell ⟨G,0,none⟩ (.slice (some ⟨go,0,none⟩) k t)).alloc (.cells #[.pointer (some ⟨j,0,none⟩),.pointer (some ⟨s,0,none⟩)] 247)).heap[wr.heap.size]?=some (.cells #[.pointer (some ⟨j,0,none⟩),.pointer (some ⟨s,0,none⟩)] 247 (0,0)):=by
    have e:wr.heap.size=(wr.setCell ⟨G,0,none⟩ (.slice (some ⟨go,0,none⟩) k t)).heap.size:=by simp[World.setCell]
    rw[e];exact wX _ _
   have ar:=Aa aC;have aj:=Aa (show yG w ((wr.setCell ⟨G,0,none⟩ (.slice (some ⟨go,0,none⟩) k t)).alloc (.cells #[.pointer (some ⟨j,0,none⟩),.pointer (some ⟨s,0,none⟩)] 247))from(K.o.trans (U.below ai.o)).trans (V.mono (wV K.o.size U.size)));generalize (wr.setCell ⟨G,0,none⟩ (.slice (some ⟨go,0,none⟩) k t)).alloc (.cells #[.pointer (some ⟨j,0,none⟩),.pointer (some ⟨s,0,none⟩)] 247)=a0 at*;have bx:=Ac ab;have ln:=Ab ab;have N:=Aa (aY.o a0 aj.o _ _ ar.o (c-1) aq.o (by omega) p.1 p.2 j s Y Z);have am:=Aa (WF (p:=p) I.o aq.o);rw[show((p.1,p.2):Nat×Nat)=p from rfl]at N;generalize GV parts p (g.1,g.2.dropLast)=r at*;obtain⟨bj,ax⟩:=r;simp only[]at N am D;clear aB aC U ab V Y Z;go_wp2_with fail;refine N.o.mono ?_;rintro _ w6 ⟨rfl,bl,aF,aI⟩;have aT:=Aa aF;have ak:=Aa (aj.o.trans (aI.below ar.o));clear aF aI;cases bj
   ·have L:=Aa (show u=false from D.o)
    go_wp2;go_ret;rw[L.o];exact⟨rfl,ak.o⟩
   ·have L:=Aa (show u=IW parts E ax from D.o)
    go_wp2;go_roundg (c-1)
    case measure=>omega
    case rel=>exact⟨ax,bl,c-1,E,aT.o,ak.o,am.o,wQ _,by omega,by omega,L.o⟩
theorem Ox(w:World)(a b:Obj):((w.alloc a).alloc b).heap[w.heap.size]?=some a/\((w.alloc a).alloc b).heap[w.heap.size+1]?=some b:=by
 refine⟨?_,?_⟩
 ·rw[AJ _ _ _ (by simp)];exact wX w a
 ·have:=wX (w.alloc a) b;simpa using this
def Hz(E:CG)(parts:List Ai)(whole:Nat):Bool:=(BW E parts (parts.length+1) whole bQ (List.replicate parts.length false)).1&&KP parts whole
section
variable {w:World} {S:Nat} {vR vO vI vU vN:Value} {LR:List (Au×Value)} {LO:List AX} {LI:List (At×Value)} {LU:List (Aw×Value)} {names:List yF}
theorem ZF(J:SV w S vR vO vI vU vN LR LO LI LU names){V B0 q whole:Nat}{id:yF}{roles:List yF}{Q:Qy}{a:List Nat}{T:List Eb}(N:DV w V id roles)(b:Fe w B0 q Q a)(M:BP Q.parts)(h:Q.ops=[(T,whole)]):
 Calls prog 45 #[.pointer (some ⟨S,0,none⟩),.pointer (some ⟨V,0,none⟩),.pointer (some ⟨q,0,none⟩)] w fun e w'=>e=.returned (.bool (Hz ⟨LO.map Prod.fst,LI.map Prod.fst,LU.map Prod.fst,roles⟩ Q.parts whole))/\yG w w':=by
 have U:=Aa (fun W (x:yG w W)=>ZQ (b.below x) M h);obtain⟨aD,aC,aE,G,u,g,d,v,K,ag⟩:=b.ex;obtain⟨aq,av,rfl⟩:=An g;obtain⟨ap,ar,rfl⟩:=An v;have ay:=b.l3;obtain⟨y,ai⟩:∃y,G=[y]:=by
  rw[h]at d;cases G with
  |nil=>cases d
  |cons y l=>cases l with
   |nil=>exact⟨y,rfl⟩
   |cons z l=>simp at d
 subst ai;have B:y.1=(T,whole):=by rw[h]at d;simpa using d
 have am:whole<a.length:=by have:=(K y yB).p;rw[B]at this;exact this
 obtain⟨j,A⟩:∃j,a[whole]?=some j:=⟨_,wS am⟩;obtain⟨af,aw,O,L⟩:=Cw v (fun _=>rfl) 0 y rfl;have ae:=(Value.slice.inj O).1;subst ae;have t:w.cell? ⟨af,1,none⟩=some (.pointer (some ⟨j,0,none⟩)):=by have:=L 1 _ rfl;simpa [oL,B,AO,A]using this
 have R:=wW w _ t;have az:=run_make_row' (P:=prog) 142 4 (.bool false) 1 underlying142 info4 rfl .i64 .i64 a.length (by omega) (by omega);have I:=Ac u;have D:=Ab u;have f:=Aa (fun(W:World) (x:yG w W) (Sb C:Nat) (ak:w.heap.size<=Sb) (al:¬C=Sb) (ah:W.heap[C]?=some (.cells #[.pointer (some ⟨S,0,none⟩),.pointer (some ⟨V,0,none⟩),.slice (some ⟨Sb,0,none⟩) a.length a.length] 189 (0,0))) (aj:W.heap[Sb]?=some (.cells (madeCells #[.bool false] a.length) 4 (0,0)))=>(ZX J N b.pt b.n ak al (Q.parts.length+1) W whole j bQ (List.replicate a.length false) x ah A (by rw[<-NK];exact aj) (by simp) (by rw[Jl,b.n];exact wQ _)));unfold KH at f;have s:=Aa (show Hz ⟨LO.map Prod.fst,LI.map Prod.fst,LU.map Prod.fst,roles⟩ Q.parts whole=((BW ⟨LO.map Prod.fst,LI.map Prod.fst,LU.map Prod.fst,roles⟩ Q.parts (Q.parts.length+1) whole bQ (List.replicate a.length false)).1&&KP Q.parts whole)from by unfold Hz;rw[b.n]);generalize Hz ⟨LO.map Prod.fst,LI.map Prod.fst,LU.map Prod.fst,roles⟩ Q.parts whole=E at*;generalize KP Q.parts whole=ad at*;generalize BW ⟨LO.map Prod.fst,LI.map Prod.fst,LU.map Prod.fst,roles⟩ Q.parts (Q.parts.length+1) whole bQ (List.replicate a.length false)=r at*;obtain⟨ao,rs⟩:=r;simp only[]at f s;clear J N b M u g d v K ag B L O h A;go_enter func45,ntmps45;go_upto_region 2 with fail;have c:=Aa (show yG w ((w.alloc (.cells (madeCells #[.bool false] a.length) 4)).alloc (.cells #[.pointer (some ⟨S,0,none⟩),.pointer (some ⟨V,0,none⟩),.slice (some ⟨w.heap.size,0,none⟩) a.length a.length] 189))from bA (bA (wR _ _) _) _);have Y:=Aa (show((w.alloc (.cells (madeCells #[.bool false] a.length) 4)).alloc (.cells #[.pointer (some ⟨S,0,none⟩),.pointer (some ⟨V,0,none⟩),.slice (some ⟨w.heap.size,0,none⟩) a.length a.length] 189)).heap[w.heap.size+1]?=some (.cells #[.pointer (some ⟨S,0,none⟩),.pointer (some ⟨V,0,none⟩),.slice (some ⟨w.heap.size,0,none⟩) a.length a.length] 189 (0,0))from(Ox w _ _).2);have aa:=Aa (show((w.alloc (.cells (madeCells #[.bool false] a.length) 4)).alloc (.cells #[.pointer (some ⟨S,0,none⟩),.pointer (some ⟨V,0,none⟩),.slice (some ⟨w.heap.size,0,none⟩) a.length a.length] 189)).heap[w.heap.size]?=some (.cells (madeCells #[.bool false] a.length) 4 (0,0))from(Ox w _ _).1);generalize (w.alloc (.cells (madeCells #[.bool false] a.length) 4)).alloc (.cells #[.pointer (some ⟨S,0,none⟩),.pointer (some ⟨V,0,none⟩),.slice (some ⟨w.heap.size,0,none⟩) a.length a.length] 189)=ab at*;have ax:=fun i=>(c.o.cell (p:=⟨q,i,none⟩) D).trans (I i);have aB:=xA D c.o.size;have au:=Ah c.o t;have aA:=xA R c.o.size;have F:=Aa (f.o ab c.o w.heap.size (w.heap.size+1) (wQ _) (by omega) Y.o aa.o);clear I D t R f;go_wp2_with fail;refine F.o.mono ?_;rintro _ w2 ⟨rfl,g,k2⟩;have k:=Aa (show yG w w2 from c.o.trans (k2.below (wQ _) c.o.size));clear g k2 F;cases ao
 ·have m:=Aa (show E=false from s.o)
  go_wp2;go_ret;rw[m.o];exact⟨rfl,k.o⟩
 ·have m:=Aa (show E=ad from s.o)
  have Z:=Aa (U.o w2 k.o);go_wp2_with fail;refine Z.o.mono ?_;rintro _ w3 ⟨rfl,H⟩;have X:=Aa (bT k.o H);clear H;go_wp2;go_ret;rw[m.o];exact⟨rfl,X.o⟩
end
end Go.Proofs.YtogdodlibkckkaaGreatDoor
