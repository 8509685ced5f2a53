import Derived.Test.YtogdodlibkckkaaGreatDoorZ05
import Derived.Deep.RegionWith
import Derived.Deep.LoopGhost
import Derived.Deep.CutBlock
import Derived.Deep.RegionHeld3
namespace Go.Proofs.YtogdodlibkckkaaGreatDoor
set_option maxHeartbeats 20000000
set_option maxRecDepth 100000
open Go.RowKit Tryz
structure PK(w X:World)(b G:Nat)(s:St):Prop where
 ps:PS X b G s
 kp:Ag b w X
 hb:b<w.heap.size
 hg:G<w.heap.size
section
variable {w X Y:World} {b G:Nat} {s s':St}
theorem PS.pk(a:PS w b G s):PK w w b G s:=⟨a,Ag.refl b w,a.lt,a.glt⟩
theorem PK.al(a:PK w X b G s)(o:Obj):PK w (X.alloc o) b G s:=⟨a.ps.alloc o,a.kp.alloc o,a.hb,a.hg⟩
theorem PK.dr(a:PK w X b G s):PK w X.drew b G s:=⟨a.ps.move rfl rfl (wQ _),a.kp.drew,a.hb,a.hg⟩
theorem PK.st(c:PK w X b G s)(a:Addr)(d:w.heap.size<=a.block)(v:Value):PK w (X.setCell a v) b G s:=⟨c.ps.move (xC _ _ _ _ (by have:=c.hb;omega)) (xC _ _ _ _ (by have:=c.hg;omega)) (by simp[World.setCell]),c.kp.setNew a d v,c.hb,c.hg⟩
theorem PK.call(a:PK w X b G s)(c:PS Y b G s')(k:Ag b X Y):PK w Y b G s':=⟨c,a.kp.trans k,a.hb,a.hg⟩
theorem PK.tr(a:PK w X b G s)(k:PK X Y b G s'):PK w Y b G s':=⟨k.ps,a.kp.trans k.kp,a.hb,a.hg⟩
theorem PK.be(a:PK w X b G s)(k:yG X Y):PK w Y b G s:=⟨a.ps.below k,a.kp.trans (Ag.of_below k),a.hb,a.hg⟩
end
structure PQ(w X:World)(p b S G:Nat)(s:St):Prop extends PK w X b G s where
 pp:PP X p b S
 hp:p<w.heap.size
section
variable {w X Y:World} {p b S G F:Nat} {s s':St}
theorem PP.pq(a:PP w p b S)(c:PS w b G s):PQ w w p b S G s:=⟨c.pk,a,a.lt⟩
theorem PQ.al(a:PQ w X p b S G s)(o:Obj):PQ w (X.alloc o) p b S G s:=⟨a.toPK.al o,a.pp.alloc o,a.hp⟩
theorem PQ.dr(a:PQ w X p b S G s):PQ w X.drew p b S G s:=⟨a.toPK.dr,a.pp,a.hp⟩
theorem PQ.st(c:PQ w X p b S G s)(a:Addr)(d:w.heap.size<=a.block)(v:Value):PQ w (X.setCell a v) p b S G s:=⟨c.toPK.st a d v,(xC _ _ _ _ (by have:=c.hp;omega)).trans c.pp,c.hp⟩
theorem PQ.call(a:PQ w X p b S G s)(c:PS Y b G s')(k:Ag b X Y):PQ w Y p b S G s':=⟨a.toPK.call c k,a.pp.keep a.ps k,a.hp⟩
theorem PQ.two(a:PQ w X p b S G s)(e:PS Y b G s')(k:CH b F X Y)(hF:w.heap.size<=F):PQ w Y p b S G s':=⟨⟨e,a.kp.two k hF,a.hb,a.hg⟩,(k.block p a.pp.lt (by obtain⟨c,d⟩:=a.ps.ty;exact a.pp.ne d (by decide)) (by have:=a.hp;omega)).trans a.pp,a.hp⟩
theorem PQ.tr(a:PQ w X p b S G s)(k:PQ X Y p b S G s'):PQ w Y p b S G s':=⟨a.toPK.tr k.toPK,k.pp,a.hp⟩
theorem PQ.kt(a:PQ w X p b S G s)(k:PK X Y b G s'):PQ w Y p b S G s':=a.call k.ps k.kp
theorem PQ.be(a:PQ w X p b S G s)(k:yG X Y):PQ w Y p b S G s:=⟨a.toPK.be k,a.pp.below k,a.hp⟩
end
def Jo(x:yF)(s:St):St:=if x=Iv then s else if x=It then s else if x=LS then s else none
def pVal(s:St):St:=if (hd s).k=2 then tl s else if (hd s).k=3 then tl s else if (hd s).k=1 then Jo (hd s).s (tl s)else none
def Jg(s:St):St:=if Bu s Nh=true then tl s else pVal s
def KE(x:yF):Nat:=if x=Iv then 3 else if x=It then 4 else 0
theorem wO(w:World)(b G:Nat)(s:St)(x:yF)(j:PS w b G s):
 Calls prog 156 #[.pointer (some ⟨b,0,none⟩),.string x] w fun e w'=>e=.returned (.agg #[.int .i64 (KE x),.int .i64 0,.string ⟨#[]⟩])/\PK w w' b G (Jo x s):=by
 have h:=Aa j.pk;have r:=j.lt;have k:=BX x [116,114,117,101];have l:=BX x [102,97,108,115,101];have m:=BX x [110,117,108,108];clear j;unfold KE Jo;by_cases a:x=Iv
 ·rw[xH a,xH a]
  rw[xM (show x=Az _ from a)]at k;clear a;go_enter func156,ntmps156;go_wp2_with fail;exact bodyPost_ret (v:=.agg #[.int .i64 3,.int .i64 0,.string ⟨#[]⟩]) (by simp[results,results156,go_sem]) rfl ⟨rfl,h.o.al _⟩
 rw[xG a,xG a];rw[wY (show¬x=Az _ from a)]at k;by_cases d:x=It
 ·rw[xH d,xH d]
  rw[xM (show x=Az _ from d)]at l;clear a d;go_enter func156,ntmps156;go_wp2_with fail;exact bodyPost_ret (v:=.agg #[.int .i64 4,.int .i64 0,.string ⟨#[]⟩]) (by simp[results,results156,go_sem]) rfl ⟨rfl,h.o.al _⟩
 rw[xG d,xG d];rw[wY (show¬x=Az _ from d)]at l;by_cases g:x=LS
 ·rw[xH g]
  rw[xM (show x=Az _ from g)]at m;clear a d g;go_enter func156,ntmps156;go_wp2_with fail;exact bodyPost_ret (v:=.agg #[.int .i64 0,.int .i64 0,.string ⟨#[]⟩]) (by simp[results,results156,go_sem]) rfl ⟨rfl,h.o.al _⟩
 rw[xG g];rw[wY (show¬x=Az _ from g)]at m;clear a d g;go_enter func156,ntmps156;go_wp2_with fail;refine(Gc _ b G s (h.o.al _).ps).mono ?_;rintro _ w2 ⟨rfl,n,k2⟩;have p:=Aa ((h.o.al _).call n k2);have i:=k2.at (wX w _) (by omega);have c:=Ac i;have f:=Ak i;have q:=Ab i;clear n k2 i;go_wp2;refine bodyPost_ret (v:=.agg #[.int .i64 0,.int .i64 0,.string ⟨#[]⟩]) (by simp[results,results156,go_sem, *]) rfl ⟨rfl,?_⟩;repeat' with_reducible first|exact p.o|refine PK.st ?_ _ (wQ _) _
def valK(s:St):Nat×Int×yF:=if (hd s).k=2 then(1,(hd s).n,⟨#[]⟩)else if (hd s).k=3 then(2,0,(hd s).s)else if (hd s).k=1 then(KE (hd s).s,0,⟨#[]⟩)else(0,0,⟨#[]⟩)
theorem Ok(w:World)(b G:Nat)(s:St)(A:PS w b G s):
 Calls prog 107 #[.pointer (some ⟨b,0,none⟩)] w fun e w'=>e=.returned (.agg #[.int .i64 (valK s).1,.int .i64 (valK s).2.1,.string (valK s).2.2])/\PK w w' b G (pVal s):=by
 have l:=Aa A.pk;have K:=A.lt;have t:=Aa (fun W (F:PK w W b G s)=>Px W b G s F.ps);have i:=Aa (show pVal s=(if (hd s).k=2 then tl s else if (hd s).k=3 then tl s else if (hd s).k=1 then Jo (hd s).s (tl s)else none)from rfl);have j:=Aa (valK.eq_1 s);clear A;generalize pVal s=J at*;generalize valK s=L at*;generalize (hd s).k=d at*;generalize (hd s).s=C at*;generalize (hd s).n=I at*;by_cases m:d=2
 ·rw[xH m]at i j
  have z:((d:Int)==2)=true:=by simp;omega
  clear m;go_enter func107,ntmps107;go_wp2_with fail;refine(t.o _ (l.o.al _)).mono ?_;rintro _ w2 ⟨rfl,g,k2⟩;have h:=Aa ((l.o.al _).call g k2);have a:=k2.at (wX w _) (by omega);have c:=Ac a;have f:=Ak a;have r:=Ab a;clear g k2 a;go_wp2_with fail;rw[i.o,j.o];refine bodyPost_ret (v:=.agg #[.int .i64 1,.int .i64 I,.string ⟨#[]⟩]) (by simp[results,results107,go_sem, *]) rfl ⟨rfl,?_⟩;repeat' with_reducible first|exact h.o|refine PK.al ?_ _|refine PK.st ?_ _ (wQ _) _
 by_cases p:d=3
 ·rw[xG m,xH p]at i j
  have z:((d:Int)==2)=false:=by simp;omega
  have D:((d:Int)==3)=true:=by simp;omega
  clear m p;go_enter func107,ntmps107;go_wp2_with fail;refine(t.o _ (l.o.al _)).mono ?_;rintro _ w2 ⟨rfl,g,k2⟩;have h:=Aa ((l.o.al _).call g k2);have a:=k2.at (wX w _) (by omega);have c:=Ac a;have f:=Ak a;have r:=Ab a;clear g k2 a;go_wp2_with fail;rw[i.o,j.o];refine bodyPost_ret (v:=.agg #[.int .i64 2,.int .i64 0,.string C]) (by simp[results,results107,go_sem, *]) rfl ⟨rfl,?_⟩;repeat' with_reducible first|exact h.o|refine PK.al ?_ _|refine PK.st ?_ _ (wQ _) _
 by_cases u:d=1
 ·rw[xG m,xG p,xH u]at i j
  have z:((d:Int)==2)=false:=by simp;omega
  have D:((d:Int)==3)=false:=by simp;omega
  have E:((d:Int)==1)=true:=by simp;omega
  clear m p u;go_enter func107,ntmps107;go_wp2_with fail;refine(t.o _ (l.o.al _)).mono ?_;rintro _ w2 ⟨rfl,g,k2⟩;have h:=Aa ((l.o.al _).call g k2);have a:=k2.at (wX w _) (by omega);have x:=Aa a;have r:=Ab a;clear g k2 a;go_wp2_with fail;refine(wO _ b G (tl s) C (h.o.al _).ps).mono ?_;rintro _ w3 ⟨rfl,q⟩;have a:=q.kp.at ((AJ w2 _ _ r).trans x.o) (by omega);have c:=Ac a;have f:=Ak a;have H:=Ab a;have y:=Aa ((h.o.al _).tr q);clear q a;go_wp2_with fail;rw[i.o,j.o];refine bodyPost_ret (v:=.agg #[.int .i64 (KE C),.int .i64 0,.string ⟨#[]⟩]) (by simp[results,results107,go_sem, *]) rfl ⟨rfl,?_⟩;repeat' with_reducible first|exact y.o|refine PK.al ?_ _|refine PK.st ?_ _ (wQ _) _
 rw[xG m,xG p,xG u]at i j;have z:((d:Int)==2)=false:=by simp;omega
 have D:((d:Int)==3)=false:=by simp;omega
 have E:((d:Int)==1)=false:=by simp;omega
 clear m p u;go_enter func107,ntmps107;go_wp2_with fail;refine(t.o _ (l.o.al _)).mono ?_;rintro _ w2 ⟨rfl,g,k2⟩;have h:=Aa ((l.o.al _).call g k2);have a:=k2.at (wX w _) (by omega);have x:=Aa a;have r:=Ab a;clear g k2 a;go_wp2_with fail;refine(Gc _ b G (tl s) (h.o.al _).ps).mono ?_;rintro _ w3 ⟨rfl,q,B⟩;have a:=B.at ((AJ w2 _ _ r).trans x.o) (by omega);have c:=Ac a;have f:=Ak a;have H:=Ab a;have y:=Aa ((h.o.al _).call q B);clear q B a;go_wp2_with fail;rw[i.o,j.o];refine bodyPost_ret (v:=.agg #[.int .i64 0,.int .i64 0,.string ⟨#[]⟩]) (by simp[results,results107,go_sem, *]) rfl ⟨rfl,?_⟩;repeat' with_reducible first|exact y.o|refine PK.al ?_ _|refine PK.st ?_ _ (wQ _) _
def MF(s:St):Nat×Int×yF:=if Bu s Nh=true then(5,0,⟨#[]⟩)else valK s
theorem sP(w:World)(p b S G:Nat)(s:St)(j:PP w p b S)(k:PS w b G s):
 Calls prog 268 #[.pointer (some ⟨p,0,none⟩)] w fun e w'=>e=.returned (.agg #[.int .i64 (MF s).1,.int .i64 (MF s).2.1,.string (MF s).2.2])/\PQ w w' p b S G (Jg s):=by
 have i:=Aa (j.pq k);have z:=k.lt;have A:=j.lt;have c:=j.c0;have h:=Aa (fun W (l:PQ w W p b S G s)=>Lw W b G s Nh l.ps);have n:=Aa (fun W (l:PQ w W p b S G s)=>Ok W b G s l.ps);unfold MF Jg;clear k j;cases e:Bu s Nh
 rotate_left
 ·rw[e]at h
  clear e n;rw[xH rfl,xH rfl];go_enter func268,ntmps268;go_wp2_with fail;refine(h.o _ (i.o.al _)).mono ?_;rintro _ w1 ⟨rfl,g,d⟩;have f:=Aa (show PQ w w1 p b S G (tl s)from(i.o.al _).call g d);have a:=d.at (wX w _) (by omega);have c1:=Ac a;have f1:=Ak a;have u:=Ab a;clear g d a;go_wp2;refine bodyPost_ret (v:=.agg #[.int .i64 5,.int .i64 0,.string ⟨#[]⟩]) (by simp[results,results268,go_sem, *]) rfl ⟨rfl,?_⟩;show PQ _ _ _ _ _ _ (tl s);repeat' with_reducible first|exact f.o|refine PQ.al ?_ _|refine PQ.st ?_ _ (wQ _) _
 ·rw[e]at h
  clear e;rw[xG (by decide),xG (by decide)];generalize valK s=m at*;generalize pVal s=B at*;go_enter func268,ntmps268;go_wp2_with fail;refine(h.o _ (i.o.al _)).mono ?_;rintro _ w1 ⟨rfl,g,d⟩;have f:=Aa ((i.o.al _).call g d);have q:=Aa (d.at (wX w _) (by omega));have c1:=f.o.pp.c0;have x:=f.o.pp.lt;clear g d;go_wp2_with fail;refine(n.o _ f.o).mono ?_;rintro _ w2 ⟨rfl,k2⟩;have a:=k2.kp.at q.o (by omega);have c2:=Ac a;have t:=Ak a;have y:=Ab a;have r:=Aa (f.o.kt k2);clear k2 a;go_wp2;refine bodyPost_ret (v:=.agg #[.int .i64 m.1,.int .i64 m.2.1,.string m.2.2]) (by simp[results,results268,go_sem, *]) rfl ⟨rfl,?_⟩;repeat' with_reducible first|exact r.o|refine PQ.al ?_ _|refine PQ.st ?_ _ (wQ _) _
def NR(n:yF):yF:=if n=De then⟨#[73,68]⟩else if n=MZ then⟨#[73,110,116]⟩else⟨#[]⟩
def FH(s:St):St:=if nm s=De then nmT s else if nm s=MZ then nmT s else none
def Ha(s:St):(yF×yF)×St:=
 ((nm s,NR (nm s)),mustT (mustT (FH s) (Ae (FH s) 9)) (Bu (mustT (FH s) (Ae (FH s) 9)) (NR (nm s))))
theorem sC(w:World)(p b S G:Nat)(s:St)(t:PP w p b S)(E:PS w b G s):
 Calls prog 253 #[.pointer (some ⟨p,0,none⟩)] w fun e w'=>e=.returned (.agg #[.string (Ha s).1.1,.string (Ha s).1.2])/\PQ w w' p b S G (Ha s).2:=by
 have U:=Aa (t.pq E);have ak:=E.lt;have aq:=t.lt;have c:=t.c0;have N:=Aa (fun W (g:PQ w W p b S G s)=>NT W p b S G s g.pp g.ps);have O:=Aa (fun W (g:PQ w W p b S G (nmT s))=>Gc W b G (nmT s) g.ps);have P:=Aa (fun W (g:PQ w W p b S G (FH s))=>Cj W b G (FH s) 9 g.ps);have T:=Aa (fun W (g:PQ w W p b S G (mustT (FH s) (Ae (FH s) 9)))=>Pw W b G _ (NR (nm s)) g.ps);have a:=Aa (xZ (NR.eq_1 (nm s)) (FH.eq_1 s));have B:=BX (nm s) [105,100];have C:=BX (nm s) [102,105,114,115,116];unfold Ha;generalize (Ay (FH s) 9).k=au at*;generalize (Ay (FH s) 9).n=av at*;generalize (Ay (FH s) 9).s=aw at*;generalize Ae (FH s) 9=X at*;generalize FH s=J at*;generalize NR (nm s)=A at*;generalize nm s=n at*;clear E t;go_enter func253,ntmps253;go_wp2_with fail;refine(N.o _ (U.o.al _)).mono ?_;rintro _ w1 ⟨rfl,F,I⟩;have h:=Aa ((U.o.al _).call F I);have j:=Aa (I.at (wX w _) (by omega));have u:=Ab j.o;have c1:=h.o.pp.c0;have am:=h.o.pp.lt;have ag:=F.lt;clear F I N
 go_upto_block 0 with fail
 go_cut [] (fun wc=>PQ w wc p b S G J/\wc.heap[w.heap.size]?=some (.cells #[.string ⟨#[]⟩,.string ⟨#[]⟩] 163 (0,0))/\wc.heap[w1.heap.size]?=some (.cells #[.string n,.string A] 163 (0,0)))
 case first=>
  have ar:=(AJ w1 (.cells #[.string n,.string ⟨#[]⟩] 163) _ u).trans j.o;by_cases d:n=De
  ·rw[xH d,xH d]at a
   rw[xM (show n=Az [105,100]from d)]at B;clear d;go_wp2;go_meet;rw[a.o.1,a.o.2];exact⟨h.o.al _,(AJ w1 _ _ u).trans j.o,wX w1 _⟩
  rw[xG d,xG d]at a;rw[wY (show¬n=Az [105,100]from d)]at B;by_cases f:n=MZ
  ·rw[xH f,xH f]at a
   rw[xM (show n=Az [102,105,114,115,116]from f)]at C;clear d f;go_wp2;go_meet;rw[a.o.1,a.o.2];exact⟨h.o.al _,(AJ w1 _ _ u).trans j.o,wX w1 _⟩
  rw[xG f,xG f]at a;rw[wY (show¬n=Az [102,105,114,115,116]from f)]at C;clear d f;go_wp2_with fail;refine(O.o _ (h.o.al _)).mono ?_;rintro _ w2 ⟨rfl,ab,k2⟩;go_wp2;go_meet;rw[a.o.1,a.o.2];exact⟨(h.o.al _).call ab k2,k2.at ((AJ w1 _ _ u).trans j.o) (by omega),k2.at (wX w1 _) (by omega)⟩
 case rest=>
  obtain⟨q,i,l⟩:=hcut;have c2:=q.pp.c0;have ao:=q.pp.lt;have D:=Aa q;have Q:=Aa i;have L:=Aa l;have ah:=q.ps.lt;clear q i l a B C O j h;go_wp2_with fail;refine(P.o _ D.o).mono ?_;rintro _ w3 ⟨rfl,H,x⟩;have z:=D.o.call H x;have r:=x.at L.o (by omega);have m:=Aa z;have M:=Aa r;have R:=Aa (x.at Q.o (by omega));have c3:=z.pp.c0;have ap:=z.pp.lt;have aa:=Ac r;have ad:=Ab r;have ai:=H.lt;clear H x Q L D z r P;go_upto_region 9 with fail;go_cut [] (fun K=>PQ w K p b S G (mustT (mustT J X) (Bu (mustT J X) A))/\K.heap[w.heap.size]?=some (.cells #[.string ⟨#[]⟩,.string ⟨#[]⟩] 163 (0,0))/\K.heap[w1.heap.size]?=some (.cells #[.string n,.string A] 163 (0,0)))
  case first=>
   go_region_with (go_at_call 155;refine(T.o _ ?_).mono ?_;(first|exact m.o.dr|exact m.o);rintro _ w4 ⟨rfl,V,y⟩);all_goals(try go_wp2_with fail)
   all_goals(go_meet;exact⟨(by first|exact m.o.dr.call V y|exact m.o.call V y),y.at R.o (by omega),y.at M.o (by omega)⟩)
  case rest=>
   obtain⟨Y,i,l⟩:=hcut;have Z:=Aa Y;have aa:=Ac l;have ae:=Ac i;have af:=Ak i;have ad:=Ab l;have aj:=Ab i;clear Y i l R M m c3 T;go_wp2;refine bodyPost_ret (v:=.agg #[.string n,.string A]) (by simp[results,results253,go_sem, *]) rfl ⟨rfl,?_⟩;repeat' with_reducible first|exact Z.o|refine PQ.al ?_ _|refine PQ.st ?_ _ (wQ _) _
structure Am where
 name:yF
 auth:yF
 hide_:yF
 arg:yF
 scalar:yF
 ty:Bv
def EV:Nat->St->yF->yF->(yF×yF)×St
 |0,s,a,b=>((a,b),s)
 |f+1,s,a,b=>if Ae s 11=true then EV f (En a b (tl s)).2 (En a b (tl s)).1.1 (En a b (tl s)).1.2 else((a,b),s)
def Em(s:St):(yF×yF)×St:=
 if Ae s 7=true then((Ha (tl s)).1,mustT (Ha (tl s)).2 (Ae (Ha (tl s)).2 8))else((⟨#[]⟩,⟨#[]⟩),s)
def IG(s:St):St:=mustT (Em (nmT s)).2 (Ae (Em (nmT s)).2 9)
def Dt(s:St):Am×St:=
 (⟨nm s,(EV 801 (BO 802 (IG s)).2 ⟨#[]⟩ ⟨#[]⟩).1.1,(EV 801 (BO 802 (IG s)).2 ⟨#[]⟩ ⟨#[]⟩).1.2,(Em (nmT s)).1.1,(Em (nmT s)).1.2,(BO 802 (IG s)).1⟩,(EV 801 (BO 802 (IG s)).2 ⟨#[]⟩ ⟨#[]⟩).2)
def Mt(f:Am)(u:Value):Array Value:=#[.string f.name,.string f.auth,.string f.hide_,.string f.arg,.string f.scalar,u]
theorem Wo(r:yF)(s:St):ln (EU r s).2<=ln s:=by
 unfold EU;refine wV (DA _ _) (wV (Bg _) (wV (DA _ _) ?_));split
 ·exact wQ _
 ·simp[ln]
theorem Wn(a b:yF)(s:St):ln (En a b s).2<=ln s:=by
 unfold En;split
 ·exact wV (Wo _ _) (Bg _)
 ·split
  ·exact wV (Wo _ _) (Bg _)
  ·simp[ln]
theorem Ap.of_keep2{T:TypeId}{B:Nat}{w w':World}{b F:Nat}{h g:Array Value}{f d:TypeId}{j i:Nat×Nat}(l:CH b F w w')(hb:w.heap[b]?=some (.cells h f j))(hF:w.heap[F]?=some (.cells g d i))(m:f≠T)(n:d≠T):Ap T B w w':=fun k c p _ a=>by
 rw[l.block k (Ab a) (fun e=>by subst e;rw[hb]at a;cases a;exact m rfl) (fun e=>by subst e;rw[hF]at a;cases a;exact n rfl)];exact a
theorem sK(w:World)(p b S G:Nat)(s:St)(h:PP w p b S)(a:PS w b G s):
 Calls prog 254 #[.pointer (some ⟨p,0,none⟩)] w fun e w'=>∃u,e=.returned u/\Bx w' w.heap.size u (BO 802 s).1/\PS w' b G (BO 802 s).2/\Ag b w w':=
 (sM 801 w p b S G s a.len h a).mono (fun _ _ ⟨_,c,d,f,g⟩=>⟨_,c,d,f,g⟩)
theorem Bx.ptr{w:World}{B:Nat}{v:Value}{t:Bv}(b:Bx w B v t):∃k,v=.pointer (some ⟨k,0,none⟩):=by
 cases t with
 |one n st=>obtain⟨k,a,_⟩:=b;exact⟨k,a⟩
 |list t st=>obtain⟨k,u,a,_⟩:=b;exact⟨k,a⟩
theorem PQ.stay{T:TypeId}{B:Nat}{w a Y:World}{p b S G:Nat}{s:St}(c:PQ w a p b S G s)(k:Ag b a Y)(d:T≠215:=by decide):Ap T B a Y:=c.ps.stay k d
theorem Ap.set3{T:TypeId}{B F:Nat}{x y:World}(a:Ap T B x y)(hF:F<B)(i:Nat)(v:Value):Ap T B x (y.setCell ⟨F,i,none⟩ v):=a.trans (Ap.set hF i v)
theorem sE(w:World)(p b S G:Nat)(s:St)(T:PP w p b S)(g:PS w b G s):
 Calls prog 226 #[.pointer (some ⟨p,0,none⟩)] w fun e w'=>∃u,e=.returned (.agg (Mt (Dt s).1 u))/\Bx w' w.heap.size u (Dt s).1.ty/\PQ w w' p b S G (Dt s).2:=by
 have aN:=Aa (T.pq g);have bt:=g.lt;have bm:=g.glt;have bE:=T.lt;have c:=T.c0;have aF:=Aa (fun W (h:PQ w W p b S G s)=>NT W p b S G s h.pp h.ps);have D:=Aa (show Dt s=(⟨nm s,(EV 801 (BO 802 (IG s)).2 ⟨#[]⟩ ⟨#[]⟩).1.1,(EV 801 (BO 802 (IG s)).2 ⟨#[]⟩ ⟨#[]⟩).1.2,(Em (nmT s)).1.1,(Em (nmT s)).1.2,(BO 802 (IG s)).1⟩,(EV 801 (BO 802 (IG s)).2 ⟨#[]⟩ ⟨#[]⟩).2)from rfl);unfold IG at D;clear g T;generalize Dt s=aU at*;generalize nm s=n at*;generalize nmT s=s1 at*;have aK:=Aa (fun W (h:PQ w W p b S G s1)=>EG W b G s1 7 h.ps);have ae:=Aa (fun W (h:PQ w W p b S G (tl s1))=>sC W p b S G (tl s1) h.pp h.ps);have j:=Aa (fun W (h:PQ w W p b S G (Ha (tl s1)).2)=>Cj W b G _ 8 h.ps);have y:=Aa (Em.eq_1 s1);have ah:=Aa (fun W (h:PQ w W p b S G (Em s1).2)=>Cj W b G _ 9 h.ps);have ak:=Aa (fun W (h:PQ w W p b S G (mustT (Em s1).2 (Ae (Em s1).2 9)))=>sK W p b S G _ h.pp h.ps);generalize (Ay (Em s1).2 9).k=Z at*;generalize (Ay (Em s1).2 9).n=n9 at*;generalize (Ay (Em s1).2 9).s=bF at*;generalize mustT (Em s1).2 (Ae (Em s1).2 9)=bb at*;generalize BO 802 bb=bc at*;obtain⟨aT,ad⟩:=bc;simp only[]at ak D;generalize Em s1=a0 at*;obtain⟨⟨m,r⟩,aE⟩:=a0;simp only[]at ah D;generalize Ha (tl s1)=a8 at*;obtain⟨⟨a9,ba⟩,aD⟩:=a8;simp only[]at j y ae;go_enter func226,ntmps226;go_wp2_with fail;refine(aF.o _ (aN.o.al _)).mono ?_;rintro _ w1 ⟨rfl,aw,aB⟩;have F:=Aa ((aN.o.al _).call aw aB);have am:=Aa (aB.at (wX w _) (by omega));have M:=Ab am.o;have c1:=F.o.pp.c0;have bw:=F.o.pp.lt;have bh:=aw.lt;clear aw aB aF;go_wp2_with fail;refine(aK.o _ (F.o.al _)).mono ?_;rintro _ w2 ⟨rfl,ax,k2⟩;have aa:=(F.o.al _).call ax k2;have z:=Aa aa;have az:=k2.at (wX w1 (.cells #[.string n,.string ⟨#[]⟩,.string ⟨#[]⟩,.string ⟨#[]⟩,.string ⟨#[]⟩,.pointer none] 166)) (by omega);have af:=Aa az;have ai:=Aa (k2.at ((AJ w1 _ _ M).trans am.o) (by omega));have bn:=Ab az;have c2:=aa.pp.c0;have bx:=aa.pp.lt;have bi:=ax.lt;clear ax k2 aa az aK am F c1
 go_upto_if 12 with fail
 go_cut [] (fun wc=>PQ w wc p b S G aE/\wc.heap[w.heap.size]?=some (.cells #[.string ⟨#[]⟩,.string ⟨#[]⟩,.string ⟨#[]⟩,.string ⟨#[]⟩,.string ⟨#[]⟩,.pointer none] 166 (0,0))/\wc.heap[w1.heap.size]?=some (.cells #[.string n,.string ⟨#[]⟩,.string ⟨#[]⟩,.string m,.string r,.pointer none] 166 (0,0)))
 case first=>
  cases aQ:Ae s1 7
  ·rw[aQ]at y z
   obtain⟨⟨ar,au⟩,av⟩:((m=⟨#[]⟩/\r=⟨#[]⟩)/\aE=s1):=by have:=y.o;simpa using this
   subst ar au av;go_wp2;go_meet;exact⟨z.o,ai.o,af.o⟩
  ·rw[aQ]at y z
   obtain⟨⟨ar,au⟩,av⟩:((m=a9/\r=ba)/\aE=mustT aD (Ae aD 8)):=by have:=y.o;simpa using this
   subst ar au av;go_wp2_with fail;refine(ae.o _ z.o).mono ?_;rintro _ w3 ⟨rfl,x⟩;have J:=x.kp.at af.o (by omega);have aW:=Aa J;have aX:=Aa (x.kp.at ai.o (by omega));have aO:=Aa (z.o.tr x);have aq:=Ac J;have fN:=Ak J;have bo:=Ab J;have c3:=x.pp.c0;have bz:=x.pp.lt;have bj:=x.ps.lt;have bD:p<w1.heap.size:=by omega
   clear J x;go_wp2_with fail;refine(j.o _ ?_).mono ?_
   ·repeat' with_reducible first|exact aO.o|refine PQ.st ?_ _ (Nat.le_of_lt M) _
   rintro _ w4 ⟨rfl,a1,aC⟩;go_wp2;go_meet;refine⟨PQ.call (s:=aD) ?_ a1 aC,aC.at ((xC _ _ _ _ (show w.heap.size≠w1.heap.size by omega)).trans ((xC _ _ _ _ (show w.heap.size≠w1.heap.size by omega)).trans aX.o)) (by omega),aC.at (AI (AI aW.o 3 _) 4 _) (by omega)⟩;repeat' with_reducible first|exact aO.o|refine PQ.st ?_ _ (Nat.le_of_lt M) _
 case rest=>
  obtain⟨O,L,t⟩:=hcut;have ao:=Aa O;have E:=Aa L;have C:=Aa t;have aY:=O.pp.c0;have bA:=O.pp.lt;have bk:=O.ps.lt;clear O L t y ae j af ai z c2;go_wp2_with fail;refine(ah.o _ ao.o).mono ?_;rintro _ w6 ⟨rfl,aR,X⟩;have ab:=ao.o.call aR X;have ap:=Aa ab;have aH:=Aa (X.at E.o (by omega));have ag:=Aa (X.at C.o (by omega));have aZ:=ab.pp.c0;have bB:=ab.pp.lt;have a5:=Ab ag.o;clear ab aR X ao E C ah aY;go_wp2_with fail;refine(ak.o _ ap.o).mono ?_;rintro _ w7 ⟨u,rfl,A,ay,Y⟩;obtain⟨N,rfl⟩:=A.ptr;have aP:=Aa (ap.o.call ay Y);have aI:=Aa (Y.at aH.o (by omega));have K:=Y.at ag.o (by omega);have aG:=Aa K;have aL:=Aa A;have aq:=Ac K;have fN:=Ak K;have bp:=Ab K;have a7:=ay.len;clear ay Y K A ak ap aH ag aZ;go_wp2;go_loopg [] (ln ad) (fun k wr=>∃(a g:yF) (d:St) (f:Nat),ln d<=k/\ln d<=f/\PQ w wr p b S G d/\wr.heap[w1.heap.size]?=some (.cells #[.string n,.string a,.string g,.string m,.string r,.pointer (some ⟨N,0,none⟩)] 166 (0,0))/\wr.heap[w.heap.size]?=some (.cells #[.string ⟨#[]⟩,.string ⟨#[]⟩,.string ⟨#[]⟩,.string ⟨#[]⟩,.string ⟨#[]⟩,.pointer none] 166 (0,0))/\Bx wr w6.heap.size (.pointer (some ⟨N,0,none⟩)) aT/\EV 801 ad ⟨#[]⟩ ⟨#[]⟩=EV f d a g)
  case atStart=>exact⟨_,_,ad,801,wQ _,a7,aP.o.st _ (Nat.le_of_lt M) _,AI aG.o 5 _,(xC _ _ _ _ (show w.heap.size≠w1.heap.size by omega)).trans aI.o,aL.o.stays (Ap.set a5 5 _),rfl⟩
  case round=>
   obtain⟨a,g,d,f,bs,br,q,t,L,A,aS⟩:=hrel;have Q:=Aa q;have C:=Aa t;have E:=Aa L;have aM:=Aa A;have P:=Aa aS;have bd:=q.pp.c0;have bC:=q.pp.lt;have bl:=q.ps.lt;have V:=Aa (EG wr b G d 11 q.ps);clear q t L A aS aP aI aG aL aq fN;cases l:Ae d 11
   ·rw[l]at V
    have B:=Aa (show aU=(⟨n,a,g,m,r,aT⟩,d)from by
     rw[D.o,P.o];cases f with
     |zero=>rfl
     |succ f=>rw[show EV (f+1) d a g=((a,g),d)from by rw[EV,xG (by rw[l];simp)]])
    clear l P D;go_wp2_with fail;refine V.o.mono ?_;rintro _ w8 ⟨rfl,I,i⟩;have H:=Aa (show PQ w w8 p b S G d from Q.o.call I i);have aA:=i.at C.o (by omega);have U:=i.at E.o (by omega);have aq:=Ac aA;have bf:=Ac U;have bg:=Ak U;have a6:=Ab aA;have bq:=Ab U;have aj:=Aa (aM.o.stays (Q.o.stay i));clear I i aA U;go_wp2;refine bodyPost_ret (v:=.agg #[.string n,.string a,.string g,.string m,.string r,.pointer (some ⟨N,0,none⟩)]) (by simp[results,results226,go_sem, *]) rfl ⟨.pointer (some ⟨N,0,none⟩),by rw[B.o];rfl,?_,?_⟩
    ·rw[B.o]
     refine(aj.o.stays ?_).mono (show w.heap.size<=w6.heap.size by omega);repeat' with_reducible first|exact Ap.refl _ _ _|refine Ap.set3 ?_ (show w.heap.size<w6.heap.size by omega) _ _
    ·rw[B.o]
     repeat' with_reducible first|exact H.o|refine PQ.st ?_ _ (wQ _) _
   ·rw[l]at V
    have bu:=ET d 11 (by decide) l;have bv:=Wn a g (tl d);obtain⟨R,rfl⟩:∃R,f=R+1:=⟨f-1,by omega⟩;have B:=Aa (show EV 801 ad ⟨#[]⟩ ⟨#[]⟩=EV R (En a g (tl d)).2 (En a g (tl d)).1.1 (En a g (tl d)).1.2 from by rw[P.o,EV,xH l]);clear l P;have aV:=Aa (fun W (h:PQ w W p b S G (tl d)) t=>sG W p b S G w1.heap.size (tl d) n a g m r (.pointer (some ⟨N,0,none⟩)) h.pp h.ps t (by omega));go_wp2_with fail;refine V.o.mono ?_;rintro _ w8 ⟨rfl,I,i⟩;have H:=Aa (show PQ w w8 p b S G (tl d)from Q.o.call I i);have j:=Aa (i.at C.o (by omega));have aJ:=Aa (i.at E.o (by omega));have aj:=Aa (aM.o.stays (Q.o.stay i));have a6:=Ab j.o;clear I i;go_wp2_with fail;refine(aV.o _ H.o j.o).mono ?_;rintro _ w9 ⟨rfl,a2,a3,Z⟩;go_wp2;go_roundg (ln (En a g (tl d)).2)
    case measure=>omega
    case rel=>
     obtain⟨cs,a4⟩:=H.o.ps.ty;exact⟨_,_,_,R,wQ _,by omega,H.o.two a2 Z (Nat.le_of_lt M),a3,(Z.block _ (Ab aJ.o) (by omega) (by omega)).trans aJ.o,aj.o.stays (Ap.of_keep2 Z a4 j.o (by decide) (by decide)),B.o⟩
theorem Ws:∀(f:Nat) (s:St),ln (BO f s).2<=ln s
 |0,s=>wQ _
 |f+1,s=>by
  rw[BO];split
  ·exact wV (Mo _ _) (wV (DA _ _) (wV (Ws f (tl s)) (BI s)))
  ·exact wV (Mo _ _) (Bg s)
theorem mQ(s:St):ln (Ha s).2<=ln s:=by
 unfold Ha;refine wV (DA _ _) (wV (DA _ _) ?_);unfold FH;split
 ·exact Bg s
 ·split
  ·exact Bg s
  ·simp[ln]
theorem mS(s:St):ln (Em s).2<=ln s:=by
 unfold Em;split
 ·exact wV (DA _ _) (wV (mQ _) (BI s))
 ·exact wQ _
theorem Wp:∀(f:Nat) (s:St) (a b:yF),ln (EV f s a b).2<=ln s
 |0,s,a,b=>wQ _
 |f+1,s,a,b=>by
  rw[EV];split
  ·exact wV (Wp f _ _ _) (wV (Wn _ _ _) (BI s))
  ·exact wQ _
theorem Pq(s:St):ln (Dt s).2<=ln (nmT s):=by
 unfold Dt;exact wV (Wp _ _ _ _) (wV (Ws _ _) (by unfold IG;exact wV (DA _ _) (mS _)))
theorem Li(s:St)(a:Ae s 1=true):ln (nmT s)<ln s:=by
 unfold nmT;rw[xH a];exact ET s 1 (by decide) a
def Di:Nat->St->List Am×St
 |0,s=>([],s)
 |f+1,s=>if Ae s 1=true then((Dt s).1::(Di f (Dt s).2).1,(Di f (Dt s).2).2)else([],s)
def CL(s:St):List Am×St:=
 ((Dt (mustT s (Ae s 14))).1::(Di 801 (Dt (mustT s (Ae s 14))).2).1,mustT (Di 801 (Dt (mustT s (Ae s 14))).2).2 (Ae (Di 801 (Dt (mustT s (Ae s 14))).2).2 15))
theorem pW(f:Nat)(s:St)(a:Ae s 1=false):Di f s=([],s):=by
 cases f with
 |zero=>rfl
 |succ f=>rw[Di,xG (by rw[a];simp)]
theorem Wk:∀(f:Nat) (s:St),ln (Di f s).2<=ln s
 |0,s=>wQ _
 |f+1,s=>by
  rw[Di];split
  ·exact wV (Wk f _) (wV (Pq s) (Bg s))
  ·exact wQ _
theorem Wj(s:St):ln (CL s).2<=ln s:=by
 unfold CL;exact wV (DA _ _) (wV (Wk _ _) (wV (Pq _) (wV (Bg _) (DA _ _))))
def NS(a:List (Am×Value)):List Value:=a.flatMap fun x=>(Mt x.1 x.2).toList
theorem qQ(a:List (Am×Value))(x:Am×Value):NS (a++[x])=NS a++(Mt x.1 x.2).toList:=by simp[NS]
def DE(w:World)(B:Nat)(v:Value)(l:List Am):Prop:=∃a:List (Am×Value),a.map Prod.fst=l/\w.ownsRow B 166 6 v a.length (NS a)/\∀x∈a,Bx w B x.2 x.1.ty
theorem CE{w w':World}{base size n:Nat}{e:TypeId}{v:Value}{xs:List Value}(a:w.ownsRow base e size v n xs)(hs:Ap e base w w'):w'.ownsRow base e size v n xs:=by
 refine⟨a.1,?_⟩;rcases a.2 with x|⟨g,cap,c,f,b,d,r⟩
 ·exact Or.inl x
 ·exact Or.inr ⟨g,cap,c,f,b,hs g _ _ b d,r⟩
theorem DE.stays{w w':World}{B:Nat}{v:Value}{l:List Am}(b:DE w B v l)(c:Ap 166 B w w')(d:Ap 302 B w w'):DE w' B v l:=by
 obtain⟨a,e,f,g⟩:=b;exact⟨a,e,CE f c,fun x h=>(g x h).stays d⟩
theorem DE.mono{w:World}{B C:Nat}{v:Value}{l:List Am}(c:DE w B v l)(a:C<=B):DE w C v l:=by
 obtain⟨b,e,d,f⟩:=c;exact⟨b,e,PT d a,fun x g=>(f x g).mono a⟩
theorem PS.grown{w w':World}{b G B:Nat}{s:St}{row:Option Nat}(a:PS w b G s)(c:w.grownBy w' row)(d:∀k,row=some k->B<=k)(hb:b<B)(f:G<B):PS w' b G s:=
 a.move (c.block b a.lt (fun e=>by have:=d b e.symm;omega)) (c.block G a.glt (fun e=>by have:=d G e.symm;omega)) c.size
theorem PP.grown{w w':World}{p b S B:Nat}{row:Option Nat}(a:PP w p b S)(c:w.grownBy w' row)(d:∀k,row=some k->B<=k)(f:p<B):PP w' p b S:=by
 unfold PP at*;rw[c.block p (Ab a) (fun e=>by have:=d p e.symm;omega)];exact a
theorem Ap.grown{T:TypeId}{B:Nat}{w w':World}{row:Option Nat}{base size n:Nat}{e:TypeId}{v:Value}{xs:List Value}(b:w.grownBy w' row)(h:w.ownsRow base e size v n xs)(i:row=v.ownBlock)(d:e≠T):Ap T B w w':=fun k c m _ a=>by
 rw[b.block k (Ab a) (fun x=>by
  rw[i]at x;rcases h.2 with⟨y,_⟩|⟨g,cap,l,j,b,f,r⟩
  ·rw[y]at x;cases x
  ·rw[j]at x;cases x;rw[f]at a;cases a;exact d rfl)]
 exact a
theorem info166:(prog.info? 166).map (fun i=>(i.zero,i.size,i.bytes))=some (some (.agg #[.string ⟨#[]⟩,.string ⟨#[]⟩,.string ⟨#[]⟩,.string ⟨#[]⟩,.string ⟨#[]⟩,.pointer none]),6,88):=by kernel_rfl
theorem PO{a b c d e f:Value}(h:a.oneCell'=true)(i:b.oneCell'=true)(j:c.oneCell'=true)(k:d.oneCell'=true)(l:e.oneCell'=true)(m:f.oneCell'=true):∀u∈[a,b,c,d,e,f],u.oneCell'=true:=by
 intro u g;simp at g;rcases g with rfl|rfl|rfl|rfl|rfl|rfl<;>assumption
theorem PQ.gr{w e Y:World}{p b S G:Nat}{s:St}(a:PQ w e p b S G s){row:Option Nat}(c:e.grownBy Y row)(d:∀k,row=some k->w.heap.size<=k):PQ w Y p b S G s:=⟨⟨a.ps.grown c d a.hb a.hg,a.kp.grown c d,a.hb,a.hg⟩,a.pp.grown c d a.hp,a.hp⟩
theorem Yp(w:World)(p b S G:Nat)(s:St)(H:PP w p b S)(E:PS w b G s):
 Calls prog 180 #[.pointer (some ⟨p,0,none⟩)] w fun e w'=>∃v,e=.returned v/\DE w' w.heap.size v (CL s).1/\(CL s).1.length<=802/\PQ w w' p b S G (CL s).2:=by
 obtain⟨aO,aG,aK,aM,aN⟩:=info_parts info166;have ae:=Aa (H.pq E);have aU:=E.lt;have aY:=H.lt;have c:=H.c0;have Z:=Aa (show CL s=((Dt (mustT s (Ae s 14))).1::(Di 801 (Dt (mustT s (Ae s 14))).2).1,mustT (Di 801 (Dt (mustT s (Ae s 14))).2).2 (Ae (Di 801 (Dt (mustT s (Ae s 14))).2).2 15))from rfl);generalize CL s=ax at*;have A:=Aa (fun W (l:PQ w W p b S G s)=>Cj W b G s 14 l.ps);have aI:=wV (DA s (Ae s 14)) E.len;clear E H;generalize (Ay s 14).k=a1 at*;generalize (Ay s 14).n=a2 at*;generalize (Ay s 14).s=a3 at*;generalize mustT s (Ae s 14)=s1 at*;have y:=Aa (fun W a (l:PQ w W p b S G a)=>sE W p b S G a l.pp l.ps);have K:=Aa (y.o · s1);have ap:=wV (Pq s1) (wV (Bg s1) aI);generalize Dt s1=aD at*;obtain⟨⟨O,M,N,Q,fs,P⟩,r⟩:=aD;simp only[Mt]at K ap;go_enter func180,ntmps180;go_wp2_with fail;refine(A.o _ ae.o).mono ?_;rintro _ w1 ⟨rfl,ao,ar⟩;have D:=Aa (ae.o.call ao ar);clear ao ar A;go_wp2_with fail;refine(K.o _ D.o).mono ?_;rintro _ w2 ⟨u,rfl,m,av⟩;obtain⟨aP,rfl⟩:=m.ptr;have ad:=Aa (m.mono D.o.kp.size);have L:=Aa (D.o.tr av);clear m av K D;go_wp2;go_loopg [3] (ln r) (fun k v wr=>∃(h:List (Am×Value)) (a:St) (f:Nat),ln a<=k/\ln a<=f/\PQ w wr p b S G a/\wr.ownsRow w.heap.size 166 6 v h.length (NS h)/\(∀x∈h,Bx wr w.heap.size x.2 x.1.ty)/\h.length+ln a<=802/\((⟨O,M,N,Q,fs,P⟩:Am)::(Di 801 r).1,(Di 801 r).2)=(h.map Prod.fst++(Di f a).1,(Di f a).2))
 case atStart=>
  refine⟨[(⟨O,M,N,Q,fs,P⟩,.pointer (some ⟨aP,0,none⟩))],r,801,wQ _,ap,L.o.al _,?_,?_,by simp;omega,rfl⟩
  ·exact⟨rfl,Or.inr ⟨w2.heap.size,1,_,rfl,L.o.kp.size,wX w2 _,wQ _,by decide,rfl,rfl⟩⟩
  ·intro x d;rw[List.mem_singleton]at d;subst d;exact ad.o.stays (Ap.alloc _)
 case round=>
  obtain⟨h,a,f,aT,aS,q,T,m,aR,hrel⟩:=hrel;obtain⟨aL,cL,rfl⟩:=An T;have z:=Aa hrel;have ag:=Aa q;have Y:=Aa T;have ab:=Aa m;have c4:=q.pp.c0;have aW:=q.pp.lt;have I:=Aa (Hg wr b G a 1 q.ps);clear q T m hrel L ad;cases d:Ae a 1
  ·rw[d]at I
   have j:=Aa (show ax=(h.map Prod.fst,mustT a (Ae a 15))from by
    have:=z.o;rw[pW f a d]at this;simp only[Prod.mk.injEq,List.append_nil]at this;rw[Z.o];rw[this.1,this.2])
   have A:=Aa (fun W (l:PQ w W p b S G a)=>Cj W b G a 15 l.ps);generalize (Ay a 15).k=mk at*;generalize (Ay a 15).n=aZ at*;generalize (Ay a 15).s=a0 at*;clear d z Z y;go_wp2_with fail;refine I.o.mono ?_;rintro _ w5 ⟨rfl,i⟩;have g:=Aa (ag.o.be i);have aQ:=g.o.pp.c0;have aX:=g.o.pp.lt;have B:=Aa (AT Y.o i);have C:=Aa (fun x d=>(ab.o x d).stays (Ap.of_below i));clear i;go_wp2_with fail;refine(A.o _ g.o).mono ?_;rintro _ w6 ⟨rfl,aF,U⟩;go_wp2;go_ret;exact⟨_,rfl,by rw[j.o];exact⟨h,rfl,CE B.o (g.o.stay U),fun x d=>(C.o x d).stays (g.o.stay U)⟩,by rw[j.o];simp;omega,by rw[j.o];exact g.o.call aF U⟩
  ·rw[d]at I
   have aV:=Li a d;have aJ:=Pq a;obtain⟨t,rfl⟩:∃t,f=t+1:=⟨f-1,by omega⟩;have j:=Aa (show((⟨O,M,N,Q,fs,P⟩:Am)::(Di 801 r).1,(Di 801 r).2)=(h.map Prod.fst++((Dt a).1::(Di t (Dt a).2).1),(Di t (Dt a).2).2)from by
    rw[z.o,Di,xH d])
   have X:=Aa (y.o · a);clear d z y;generalize Dt a=f1 at*;obtain⟨⟨aj,ah,ai,am,ak,aE⟩,aw⟩:=f1;simp only[Mt]at X j aJ;go_wp2_with fail;refine I.o.mono ?_;rintro _ w5 ⟨rfl,i⟩;have g:=Aa (ag.o.be i);have B:=Aa (AT Y.o i);have C:=Aa (fun x d=>(ab.o x d).stays (Ap.of_below i));clear i;go_wp2_with fail;refine(X.o _ g.o).mono ?_;rintro _ w6 ⟨u,rfl,V,J⟩;obtain⟨au,rfl⟩:=V.ptr;have F:=CE B.o (g.o.stay J.kp);have aA:=Aa (fun x d=>(C.o x d).stays (g.o.stay J.kp));have aB:=Aa (V.mono g.o.kp.size);have af:=Aa (g.o.tr J);have a4:=af.o.kp.size;have ay:=Aa (fun k aH=>(F.lt k aH).1);clear J V B C g;go_wp2_with (at_builtin;refine wpList_append_own _ rfl _ _ 144 rfl w.heap.size 166 aO _ 6 88 underlying144 aG aK aM aN rfl (by decide) _ _ _ rfl (F.alloc _) ⟨w6.heap.size,0,none⟩ 1 1 [.string aj,.string ah,.string ai,.string am,.string ak,.pointer (some ⟨au,0,none⟩)] rfl rfl (Cz _ _ _ _ (by simp)) (PO rfl rfl rfl rfl rfl rfl) (by unfold maxLen;omega) (by omega) (by simp;omega) ?_;intro v' w7 aq R _);have aC:=Aa ((af.o.al _).gr R ay.o);have aa:=Aa (show Ap 302 w.heap.size w6 w7 from(Ap.alloc _).trans (Ap.grown R (F.alloc _) rfl (by decide)));have az:=Aa aq;clear aq R F;go_roundg (ln aw)
   case measure=>omega
   case rel=>
    refine⟨h++[(⟨aj,ah,ai,am,ak,aE⟩,.pointer (some ⟨au,0,none⟩))],aw,t,wQ _,by omega,aC.o,by rw[qQ,xJ];exact az.o,fun x d=>?_,by simp;omega,by rw[j.o];simp⟩;rcases yD.1 d with d|d
    ·exact(aA.o x d).stays aa.o
    ·rw[List.mem_singleton]at d;subst d;exact aB.o.stays aa.o
end Go.Proofs.YtogdodlibkckkaaGreatDoor
