import Derived.Test.YtgbloieahmkcjaaGreatC14
import Derived.Deep.RegionWith
import Derived.Deep.LoopGhost
import Derived.Deep.CutBlock
import Derived.Deep.RegionHeld3
namespace Go.Proofs.YtgbloieahmkcjaaGreat
set_option maxHeartbeats 20000000
set_option maxRecDepth 100000
open Go.RowKit Tryz
structure PK(w X:World)(b G:Nat)(s:St):Prop where
 ps:PS X b G s
 kp:ai b w X
 hb:b<w.heap.size
 hg:G<w.heap.size
section
variable {w X Y:World} {b G:Nat} {s s':St}
theorem PS.pk(h:PS w b G s):PK w w b G s:=⟨h,ai.refl b w,h.lt,h.glt⟩
theorem PK.al(h:PK w X b G s)(o:Obj):PK w (X.alloc o) b G s:=⟨h.ps.alloc o,h.kp.alloc o,h.hb,h.hg⟩
theorem PK.dr(h:PK w X b G s):PK w X.drew b G s:=⟨h.ps.move rfl rfl (KK _),h.kp.drew,h.hb,h.hg⟩
theorem PK.st(h:PK w X b G s)(a:Addr)(ha:w.heap.size<=a.block)(v:Value):PK w (X.setCell a v) b G s:=⟨h.ps.move (KX _ _ _ _ (by have:=h.hb;omega)) (KX _ _ _ _ (by have:=h.hg;omega)) (by simp[World.setCell]),h.kp.setNew a ha v,h.hb,h.hg⟩
theorem PK.call(h:PK w X b G s)(hp:PS Y b G s')(k:ai b X Y):PK w Y b G s':=⟨hp,h.kp.trans k,h.hb,h.hg⟩
theorem PK.tr(h:PK w X b G s)(k:PK X Y b G s'):PK w Y b G s':=⟨k.ps,h.kp.trans k.kp,h.hb,h.hg⟩
theorem PK.be(h:PK w X b G s)(k:Lt X Y):PK w Y b G s:=⟨h.ps.below k,h.kp.trans (ai.of_below k),h.hb,h.hg⟩
end
structure PQ(w X:World)(p b S G:Nat)(s:St):Prop extends PK w X b G s where
 pp:PP X p b S
 hp:p<w.heap.size
section
variable {w X Y:World} {p b S G F:Nat} {s s':St}
theorem PP.pq(hP:PP w p b S)(h:PS w b G s):PQ w w p b S G s:=⟨h.pk,hP,hP.lt⟩
theorem PQ.al(h:PQ w X p b S G s)(o:Obj):PQ w (X.alloc o) p b S G s:=⟨h.toPK.al o,h.pp.alloc o,h.hp⟩
theorem PQ.dr(h:PQ w X p b S G s):PQ w X.drew p b S G s:=⟨h.toPK.dr,h.pp,h.hp⟩
theorem PQ.st(h:PQ w X p b S G s)(a:Addr)(ha:w.heap.size<=a.block)(v:Value):PQ w (X.setCell a v) p b S G s:=⟨h.toPK.st a ha v,(KX _ _ _ _ (by have:=h.hp;omega)).trans h.pp,h.hp⟩
theorem PQ.call(h:PQ w X p b S G s)(hp:PS Y b G s')(k:ai b X Y):PQ w Y p b S G s':=⟨h.toPK.call hp k,h.pp.keep h.ps k,h.hp⟩
theorem PQ.two(h:PQ w X p b S G s)(hp:PS Y b G s')(k:fj b F X Y)(hF:w.heap.size<=F):PQ w Y p b S G s':=⟨⟨hp,h.kp.two k hF,h.hb,h.hg⟩,(k.block p h.pp.lt (by obtain⟨c,hc⟩:=h.ps.ty;exact h.pp.ne hc (by decide)) (by have:=h.hp;omega)).trans h.pp,h.hp⟩
theorem PQ.tr(h:PQ w X p b S G s)(k:PQ X Y p b S G s'):PQ w Y p b S G s':=⟨h.toPK.tr k.toPK,k.pp,h.hp⟩
theorem PQ.kt(h:PQ w X p b S G s)(k:PK X Y b G s'):PQ w Y p b S G s':=h.call k.ps k.kp
theorem PQ.be(h:PQ w X p b S G s)(k:Lt X Y):PQ w Y p b S G s:=⟨h.toPK.be k,h.pp.below k,h.hp⟩
end
def lm(x:Ls)(s:St):St:=if x=jr then s else if x=jw then s else if x=mf then s else none
def iH(s:St):St:=if (hd s).k=2 then tl s else if (hd s).k=3 then tl s else if (hd s).k=1 then lm (hd s).s (tl s)else none
def iZ(s:St):St:=if aq s eV=true then tl s else iH s
def qP(x:Ls):Nat:=if x=jr then 3 else if x=jw then 4 else 0
theorem EH(w:World)(b G:Nat)(s:St)(x:Ls)(h:PS w b G s):
 Calls prog 216 #[.pointer (some ⟨b,0,none⟩),.string x] w fun e w'=>e=.returned (.agg #[.int .i64 (qP x),.int .i64 0,.string ⟨#[]⟩])/\PK w w' b G (lm x s):=by
 have K0:=aa h.pk;have hlt:=h.lt;have L1:=bV x [116,114,117,101];have L2:=bV x [102,97,108,115,101];have L3:=bV x [110,117,108,108];clear h;unfold qP lm;by_cases e1:x=jr
 ·rw[K9 e1,K9 e1]
  rw[Le (show x=aE _ from e1)]at L1;clear e1;go_enter func216,ntmps216;go_wp2_with fail;exact bodyPost_ret (v:=.agg #[.int .i64 3,.int .i64 0,.string ⟨#[]⟩]) (by simp[results,results216,go_sem]) rfl ⟨rfl,K0.o.al _⟩
 rw[K8 e1,K8 e1];rw[KT (show¬x=aE _ from e1)]at L1;by_cases e2:x=jw
 ·rw[K9 e2,K9 e2]
  rw[Le (show x=aE _ from e2)]at L2;clear e1 e2;go_enter func216,ntmps216;go_wp2_with fail;exact bodyPost_ret (v:=.agg #[.int .i64 4,.int .i64 0,.string ⟨#[]⟩]) (by simp[results,results216,go_sem]) rfl ⟨rfl,K0.o.al _⟩
 rw[K8 e2,K8 e2];rw[KT (show¬x=aE _ from e2)]at L2;by_cases e3:x=mf
 ·rw[K9 e3]
  rw[Le (show x=aE _ from e3)]at L3;clear e1 e2 e3;go_enter func216,ntmps216;go_wp2_with fail;exact bodyPost_ret (v:=.agg #[.int .i64 0,.int .i64 0,.string ⟨#[]⟩]) (by simp[results,results216,go_sem]) rfl ⟨rfl,K0.o.al _⟩
 rw[K8 e3];rw[KT (show¬x=aE _ from e3)]at L3;clear e1 e2 e3;go_enter func216,ntmps216;go_wp2_with fail;refine(mt _ b G s (K0.o.al _).ps).mono ?_;rintro _ w2 ⟨rfl,h2,k2⟩;have K2:=aa ((K0.o.al _).call h2 k2);have hz:=k2.at (KS w _) (by omega);have c:=ae hz;have f:=ar hz;have hl:=ag hz;clear h2 k2 hz;go_wp2_with fail;refine bodyPost_ret (v:=.agg #[.int .i64 0,.int .i64 0,.string ⟨#[]⟩]) (by simp[results,results216,go_sem, *]) rfl ⟨rfl,?_⟩;repeat' with_reducible first|exact K2.o|refine PK.st ?_ _ (KK _) _
def jk(s:St):Nat×Int×Ls:=if (hd s).k=2 then(1,(hd s).n,⟨#[]⟩)else if (hd s).k=3 then(2,0,(hd s).s)else if (hd s).k=1 then(qP (hd s).s,0,⟨#[]⟩)else(0,0,⟨#[]⟩)
theorem Cz(w:World)(b G:Nat)(s:St)(h:PS w b G s):
 Calls prog 207 #[.pointer (some ⟨b,0,none⟩)] w fun e w'=>e=.returned (.agg #[.int .i64 (jk s).1,.int .i64 (jk s).2.1,.string (jk s).2.2])/\PK w w' b G (iH s):=by
 have K0:=aa h.pk;have hlt:=h.lt;have HC:=aa (fun W (hW:PK w W b G s)=>uf W b G s hW.ps);have HQ:=aa (show iH s=(if (hd s).k=2 then tl s else if (hd s).k=3 then tl s else if (hd s).k=1 then lm (hd s).s (tl s)else none)from rfl);have HV:=aa (jk.eq_1 s);clear h;generalize iH s=FF at*;generalize jk s=vv at*;generalize (hd s).k=kk at*;generalize (hd s).s=yy at*;generalize (hd s).n=nn at*;by_cases e1:kk=2
 ·rw[K9 e1]at HQ HV
  have T1:((kk:Int)==2)=true:=by simp;omega
  clear e1;go_enter func207,ntmps207;go_wp2_with fail;refine(HC.o _ (K0.o.al _)).mono ?_;rintro _ w2 ⟨rfl,h2,k2⟩;have K2:=aa ((K0.o.al _).call h2 k2);have hz:=k2.at (KS w _) (by omega);have c:=ae hz;have f:=ar hz;have hl:=ag hz;clear h2 k2 hz;go_wp2_with fail;rw[HQ.o,HV.o];refine bodyPost_ret (v:=.agg #[.int .i64 1,.int .i64 nn,.string ⟨#[]⟩]) (by simp[results,results207,go_sem, *]) rfl ⟨rfl,?_⟩;repeat' with_reducible first|exact K2.o|refine PK.al ?_ _|refine PK.st ?_ _ (KK _) _
 by_cases e2:kk=3
 ·rw[K8 e1,K9 e2]at HQ HV
  have T1:((kk:Int)==2)=false:=by simp;omega
  have T2:((kk:Int)==3)=true:=by simp;omega
  clear e1 e2;go_enter func207,ntmps207;go_wp2_with fail;refine(HC.o _ (K0.o.al _)).mono ?_;rintro _ w2 ⟨rfl,h2,k2⟩;have K2:=aa ((K0.o.al _).call h2 k2);have hz:=k2.at (KS w _) (by omega);have c:=ae hz;have f:=ar hz;have hl:=ag hz;clear h2 k2 hz;go_wp2_with fail;rw[HQ.o,HV.o];refine bodyPost_ret (v:=.agg #[.int .i64 2,.int .i64 0,.string yy]) (by simp[results,results207,go_sem, *]) rfl ⟨rfl,?_⟩;repeat' with_reducible first|exact K2.o|refine PK.al ?_ _|refine PK.st ?_ _ (KK _) _
 by_cases e3:kk=1
 ·rw[K8 e1,K8 e2,K9 e3]at HQ HV
  have T1:((kk:Int)==2)=false:=by simp;omega
  have T2:((kk:Int)==3)=false:=by simp;omega
  have T3:((kk:Int)==1)=true:=by simp;omega
  clear e1 e2 e3;go_enter func207,ntmps207;go_wp2_with fail;refine(HC.o _ (K0.o.al _)).mono ?_;rintro _ w2 ⟨rfl,h2,k2⟩;have K2:=aa ((K0.o.al _).call h2 k2);have hz:=k2.at (KS w _) (by omega);have HZ:=aa hz;have hl:=ag hz;clear h2 k2 hz;go_wp2_with fail;refine(EH _ b G (tl s) yy (K2.o.al _).ps).mono ?_;rintro _ w3 ⟨rfl,h3⟩;have hz:=h3.kp.at ((bp w2 _ _ hl).trans HZ.o) (by omega);have c:=ae hz;have f:=ar hz;have hl3:=ag hz;have K3:=aa ((K2.o.al _).tr h3);clear h3 hz;go_wp2_with fail;rw[HQ.o,HV.o];refine bodyPost_ret (v:=.agg #[.int .i64 (qP yy),.int .i64 0,.string ⟨#[]⟩]) (by simp[results,results207,go_sem, *]) rfl ⟨rfl,?_⟩;repeat' with_reducible first|exact K3.o|refine PK.al ?_ _|refine PK.st ?_ _ (KK _) _
 rw[K8 e1,K8 e2,K8 e3]at HQ HV;have T1:((kk:Int)==2)=false:=by simp;omega
 have T2:((kk:Int)==3)=false:=by simp;omega
 have T3:((kk:Int)==1)=false:=by simp;omega
 clear e1 e2 e3;go_enter func207,ntmps207;go_wp2_with fail;refine(HC.o _ (K0.o.al _)).mono ?_;rintro _ w2 ⟨rfl,h2,k2⟩;have K2:=aa ((K0.o.al _).call h2 k2);have hz:=k2.at (KS w _) (by omega);have HZ:=aa hz;have hl:=ag hz;clear h2 k2 hz;go_wp2_with fail;refine(mt _ b G (tl s) (K2.o.al _).ps).mono ?_;rintro _ w3 ⟨rfl,h3,k3⟩;have hz:=k3.at ((bp w2 _ _ hl).trans HZ.o) (by omega);have c:=ae hz;have f:=ar hz;have hl3:=ag hz;have K3:=aa ((K2.o.al _).call h3 k3);clear h3 k3 hz;go_wp2_with fail;rw[HQ.o,HV.o];refine bodyPost_ret (v:=.agg #[.int .i64 0,.int .i64 0,.string ⟨#[]⟩]) (by simp[results,results207,go_sem, *]) rfl ⟨rfl,?_⟩;repeat' with_reducible first|exact K3.o|refine PK.al ?_ _|refine PK.st ?_ _ (KK _) _
def pN(s:St):Nat×Int×Ls:=if aq s eV=true then(5,0,⟨#[]⟩)else jk s
theorem Ea(w:World)(p b S G:Nat)(s:St)(hP:PP w p b S)(h:PS w b G s):
 Calls prog 212 #[.pointer (some ⟨p,0,none⟩)] w fun e w'=>e=.returned (.agg #[.int .i64 (pN s).1,.int .i64 (pN s).2.1,.string (pN s).2.2])/\PQ w w' p b S G (iZ s):=by
 have Q0:=aa (hP.pq h);have hlt:=h.lt;have hpl:=hP.lt;have c:=hP.c0;have HT:=aa (fun W (hW:PQ w W p b S G s)=>ur W b G s eV hW.ps);have HV:=aa (fun W (hW:PQ w W p b S G s)=>Cz W b G s hW.ps);unfold pN iZ;clear h hP;cases e:aq s eV
 rotate_left
 ·rw[e]at HT
  clear e HV;rw[K9 rfl,K9 rfl];go_enter func212,ntmps212;go_wp2_with fail;refine(HT.o _ (Q0.o.al _)).mono ?_;rintro _ w1 ⟨rfl,h1,k1⟩;have Q1:=aa (show PQ w w1 p b S G (tl s)from(Q0.o.al _).call h1 k1);have hz:=k1.at (KS w _) (by omega);have c1:=ae hz;have f1:=ar hz;have hl:=ag hz;clear h1 k1 hz;go_wp2_with fail;refine bodyPost_ret (v:=.agg #[.int .i64 5,.int .i64 0,.string ⟨#[]⟩]) (by simp[results,results212,go_sem, *]) rfl ⟨rfl,?_⟩;show PQ _ _ _ _ _ _ (tl s);repeat' with_reducible first|exact Q1.o|refine PQ.al ?_ _|refine PQ.st ?_ _ (KK _) _
 ·rw[e]at HT
  clear e;rw[K8 (by decide),K8 (by decide)];generalize jk s=vv at*;generalize iH s=sv at*;go_enter func212,ntmps212;go_wp2_with fail;refine(HT.o _ (Q0.o.al _)).mono ?_;rintro _ w1 ⟨rfl,h1,k1⟩;have Q1:=aa ((Q0.o.al _).call h1 k1);have HZ:=aa (k1.at (KS w _) (by omega));have c1:=Q1.o.pp.c0;have hl1:=Q1.o.pp.lt;clear h1 k1;go_wp2_with fail;refine(HV.o _ Q1.o).mono ?_;rintro _ w2 ⟨rfl,k2⟩;have hz:=k2.kp.at HZ.o (by omega);have c2:=ae hz;have f2:=ar hz;have hl2:=ag hz;have Q2:=aa (Q1.o.kt k2);clear k2 hz;go_wp2_with fail;refine bodyPost_ret (v:=.agg #[.int .i64 vv.1,.int .i64 vv.2.1,.string vv.2.2]) (by simp[results,results212,go_sem, *]) rfl ⟨rfl,?_⟩;repeat' with_reducible first|exact Q2.o|refine PQ.al ?_ _|refine PQ.st ?_ _ (KK _) _
def oj(n:Ls):Ls:=if n=ik then⟨#[73,68]⟩else if n=mp then⟨#[73,110,116]⟩else⟨#[]⟩
def jf(s:St):St:=if nm s=ik then ab s else if nm s=mp then ab s else none
def jS(s:St):(Ls×Ls)×St:=
 ((nm s,oj (nm s)),ak (ak (jf s) (af (jf s) 9)) (aq (ak (jf s) (af (jf s) 9)) (oj (nm s))))
theorem E3(w:World)(p b S G:Nat)(s:St)(hP:PP w p b S)(h:PS w b G s):
 Calls prog 196 #[.pointer (some ⟨p,0,none⟩)] w fun e w'=>e=.returned (.agg #[.string (jS s).1.1,.string (jS s).1.2])/\PQ w w' p b S G (jS s).2:=by
 have Q0:=aa (hP.pq h);have hlt:=h.lt;have hpl:=hP.lt;have c:=hP.c0;have HC:=aa (fun W (hW:PQ w W p b S G s)=>rF W p b S G s hW.pp hW.ps);have HF:=aa (fun W (hW:PQ w W p b S G (ab s))=>mt W b G (ab s) hW.ps);have HN:=aa (fun W (hW:PQ w W p b S G (jf s))=>iG W b G (jf s) 9 hW.ps);have HW:=aa (fun W (hW:PQ w W p b S G (ak (jf s) (af (jf s) 9)))=>C9 W b G _ (oj (nm s)) hW.ps);have HS:=aa (And.intro (oj.eq_1 (nm s)) (jf.eq_1 s));have L1:=bV (nm s) [105,100];have L2:=bV (nm s) [102,105,114,115,116];unfold jS;generalize (ce (jf s) 9).k=nk at*;generalize (ce (jf s) 9).n=nn at*;generalize (ce (jf s) 9).s=ny at*;generalize af (jf s) 9=i9 at*;generalize jf s=sa at*;generalize oj (nm s)=sc at*;generalize nm s=n at*;clear h hP;go_enter func196,ntmps196;go_wp2_with fail;refine(HC.o _ (Q0.o.al _)).mono ?_;rintro _ w1 ⟨rfl,h1,k1⟩;have Q1:=aa ((Q0.o.al _).call h1 k1);have HZ:=aa (k1.at (KS w _) (by omega));have hl1:=ag HZ.o;have c1:=Q1.o.pp.c0;have hp1:=Q1.o.pp.lt;have hb1:=h1.lt;clear h1 k1 HC
 go_upto_block 0 with fail
 go_cut [] (fun wc=>PQ w wc p b S G sa/\wc.heap[w.heap.size]?=some (.cells #[.string ⟨#[]⟩,.string ⟨#[]⟩] 177 (0,0))/\wc.heap[w1.heap.size]?=some (.cells #[.string n,.string sc] 177 (0,0)))
 case first=>
  have hz:=(bp w1 (.cells #[.string n,.string ⟨#[]⟩] 177) _ hl1).trans HZ.o;by_cases e1:n=ik
  ·rw[K9 e1,K9 e1]at HS
   rw[Le (show n=aE [105,100]from e1)]at L1;clear e1;go_wp2_with fail;go_meet;rw[HS.o.1,HS.o.2];exact⟨Q1.o.al _,(bp w1 _ _ hl1).trans HZ.o,KS w1 _⟩
  rw[K8 e1,K8 e1]at HS;rw[KT (show¬n=aE [105,100]from e1)]at L1;by_cases e2:n=mp
  ·rw[K9 e2,K9 e2]at HS
   rw[Le (show n=aE [102,105,114,115,116]from e2)]at L2;clear e1 e2;go_wp2_with fail;go_meet;rw[HS.o.1,HS.o.2];exact⟨Q1.o.al _,(bp w1 _ _ hl1).trans HZ.o,KS w1 _⟩
  rw[K8 e2,K8 e2]at HS;rw[KT (show¬n=aE [102,105,114,115,116]from e2)]at L2;clear e1 e2;go_wp2_with fail;refine(HF.o _ (Q1.o.al _)).mono ?_;rintro _ w2 ⟨rfl,h2,k2⟩;go_wp2_with fail;go_meet;rw[HS.o.1,HS.o.2];exact⟨(Q1.o.al _).call h2 k2,k2.at ((bp w1 _ _ hl1).trans HZ.o) (by omega),k2.at (KS w1 _) (by omega)⟩
 case rest=>
  obtain⟨q2,hR,hA⟩:=hcut;have c2:=q2.pp.c0;have hp2:=q2.pp.lt;have Q2:=aa q2;have HR:=aa hR;have HA:=aa hA;have hb2:=q2.ps.lt;clear q2 hR hA HS L1 L2 HF HZ Q1;go_wp2_with fail;refine(HN.o _ Q2.o).mono ?_;rintro _ w3 ⟨rfl,h3,k3⟩;have q3:=Q2.o.call h3 k3;have hA3:=k3.at HA.o (by omega);have Q3:=aa q3;have HA3:=aa hA3;have HR3:=aa (k3.at HR.o (by omega));have c3:=q3.pp.c0;have hp3:=q3.pp.lt;have cA:=ae hA3;have hlA:=ag hA3;have hb3:=h3.lt;clear h3 k3 HR HA Q2 q3 hA3 HN;go_upto_region 9 with fail;go_cut [] (fun wd=>PQ w wd p b S G (ak (ak sa i9) (aq (ak sa i9) sc))/\wd.heap[w.heap.size]?=some (.cells #[.string ⟨#[]⟩,.string ⟨#[]⟩] 177 (0,0))/\wd.heap[w1.heap.size]?=some (.cells #[.string n,.string sc] 177 (0,0)))
  case first=>
   go_region_with (go_at_call 133;refine(HW.o _ ?_).mono ?_;(first|exact Q3.o.dr|exact Q3.o);rintro _ w4 ⟨rfl,h4,k4⟩);all_goals(try go_wp2_with fail)
   all_goals(go_meet;exact⟨(by first|exact Q3.o.dr.call h4 k4|exact Q3.o.call h4 k4),k4.at HR3.o (by omega),k4.at HA3.o (by omega)⟩)
  case rest=>
   obtain⟨q5,hR,hA⟩:=hcut;have Q5:=aa q5;have cA:=ae hA;have cR:=ae hR;have fR:=ar hR;have hlA:=ag hA;have hlR:=ag hR;clear q5 hR hA HR3 HA3 Q3 c3 HW;go_wp2_with fail;refine bodyPost_ret (v:=.agg #[.string n,.string sc]) (by simp[results,results196,go_sem, *]) rfl ⟨rfl,?_⟩;repeat' with_reducible first|exact Q5.o|refine PQ.al ?_ _|refine PQ.st ?_ _ (KK _) _
structure ax where
 name:Ls
 LG:Ls
 LH:Ls
 arg:Ls
 scalar:Ls
 ty:dh
def fo:Nat->St->Ls->Ls->(Ls×Ls)×St
 |0,s,a,h=>((a,h),s)
 |f+1,s,a,h=>if af s 11=true then fo f (gp a h (tl s)).2 (gp a h (tl s)).1.1 (gp a h (tl s)).1.2 else((a,h),s)
def ee(s:St):(Ls×Ls)×St:=
 if af s 7=true then((jS (tl s)).1,ak (jS (tl s)).2 (af (jS (tl s)).2 8))else((⟨#[]⟩,⟨#[]⟩),s)
def iu(s:St):St:=ak (ee (ab s)).2 (af (ee (ab s)).2 9)
def bL(s:St):ax×St:=
 (⟨nm s,(fo 801 (bU 802 (iu s)).2 ⟨#[]⟩ ⟨#[]⟩).1.1,(fo 801 (bU 802 (iu s)).2 ⟨#[]⟩ ⟨#[]⟩).1.2,(ee (ab s)).1.1,(ee (ab s)).1.2,(bU 802 (iu s)).1⟩,(fo 801 (bU 802 (iu s)).2 ⟨#[]⟩ ⟨#[]⟩).2)
def qI(f:ax)(u:Value):Array Value:=#[.string f.name,.string f.LG,.string f.LH,.string f.arg,.string f.scalar,u]
theorem Ap(r:Ls)(s:St):ln (fT r s).2<=ln s:=by
 unfold fT;refine KP (cg _ _) (KP (bH _) (KP (cg _ _) ?_));split
 ·exact KK _
 ·simp[ln]
theorem yt(a h:Ls)(s:St):ln (gp a h s).2<=ln s:=by
 unfold gp;split
 ·exact KP (Ap _ _) (bH _)
 ·split
  ·exact KP (Ap _ _) (bH _)
  ·simp[ln]
theorem au.of_keep2{T:TypeId}{B:Nat}{w w':World}{b F:Nat}{cb cF:Array Value}{Tb TF:TypeId}{fb fF:Nat×Nat}(h:fj b F w w')(hb:w.heap[b]?=some (.cells cb Tb fb))(hF:w.heap[F]?=some (.cells cF TF fF))(h1:Tb≠T)(h2:TF≠T):au T B w w':=fun k c fr' _ a=>by
 rw[h.block k (ag a) (fun e=>by subst e;rw[hb]at a;cases a;exact h1 rfl) (fun e=>by subst e;rw[hF]at a;cases a;exact h2 rfl)];exact a
theorem Jz(w:World)(p b S G:Nat)(s:St)(hP:PP w p b S)(h:PS w b G s):
 Calls prog 197 #[.pointer (some ⟨p,0,none⟩)] w fun e w'=>∃u,e=.returned u/\d9 w' w.heap.size u (bU 802 s).1/\PS w' b G (bU 802 s).2/\ai b w w':=
 (Jw 801 w p b S G s h.len hP h).mono (fun _ _ ⟨_,h1,h2,h3,h4⟩=>⟨_,h1,h2,h3,h4⟩)
theorem d9.ptr{w:World}{B:Nat}{v:Value}{t:dh}(h:d9 w B v t):∃k,v=.pointer (some ⟨k,0,none⟩):=by
 cases t with
 |one n st=>obtain⟨k,h1,_⟩:=h;exact⟨k,h1⟩
 |list t st=>obtain⟨k,u,h1,_⟩:=h;exact⟨k,h1⟩
theorem PQ.stay{T:TypeId}{B:Nat}{w X Y:World}{p b S G:Nat}{s:St}(h:PQ w X p b S G s)(k:ai b X Y)(hT:T≠193:=by decide):au T B X Y:=h.ps.stay k hT
theorem au.set3{T:TypeId}{B F:Nat}{x y:World}(h:au T B x y)(hF:F<B)(i:Nat)(v:Value):au T B x (y.setCell ⟨F,i,none⟩ v):=h.trans (au.set hF i v)
theorem Ga(w:World)(p b S G:Nat)(s:St)(hP:PP w p b S)(h:PS w b G s):
 Calls prog 169 #[.pointer (some ⟨p,0,none⟩)] w fun e w'=>∃u,e=.returned (.agg (qI (bL s).1 u))/\d9 w' w.heap.size u (bL s).1.ty/\PQ w w' p b S G (bL s).2:=by
 have Q0:=aa (hP.pq h);have hlt:=h.lt;have hgl:=h.glt;have hpl:=hP.lt;have c:=hP.c0;have HC:=aa (fun W (hW:PQ w W p b S G s)=>rF W p b S G s hW.pp hW.ps);have HQ:=aa (show bL s=(⟨nm s,(fo 801 (bU 802 (iu s)).2 ⟨#[]⟩ ⟨#[]⟩).1.1,(fo 801 (bU 802 (iu s)).2 ⟨#[]⟩ ⟨#[]⟩).1.2,(ee (ab s)).1.1,(ee (ab s)).1.2,(bU 802 (iu s)).1⟩,(fo 801 (bU 802 (iu s)).2 ⟨#[]⟩ ⟨#[]⟩).2)from rfl);unfold iu at HQ;clear h hP;generalize bL s=FF at*;generalize nm s=n at*;generalize ab s=s1 at*;have HT:=aa (fun W (hW:PQ w W p b S G s1)=>mM W b G s1 7 hW.ps);have HA:=aa (fun W (hW:PQ w W p b S G (tl s1))=>E3 W p b S G (tl s1) hW.pp hW.ps);have HN8:=aa (fun W (hW:PQ w W p b S G (jS (tl s1)).2)=>iG W b G _ 8 hW.ps);have HFA:=aa (ee.eq_1 s1);have HN9:=aa (fun W (hW:PQ w W p b S G (ee s1).2)=>iG W b G _ 9 hW.ps);have HTY:=aa (fun W (hW:PQ w W p b S G (ak (ee s1).2 (af (ee s1).2 9)))=>Jz W p b S G _ hW.pp hW.ps);generalize (ce (ee s1).2 9).k=k9 at*;generalize (ce (ee s1).2 9).n=n9 at*;generalize (ce (ee s1).2 9).s=y9 at*;generalize ak (ee s1).2 (af (ee s1).2 9)=s5 at*;generalize bU 802 s5=tt at*;obtain⟨ty,s6⟩:=tt;simp only[]at HTY HQ;generalize ee s1=fa at*;obtain⟨⟨fx,fy⟩,s4⟩:=fa;simp only[]at HN9 HQ;generalize jS (tl s1)=pa at*;obtain⟨⟨px,py⟩,s3⟩:=pa;simp only[]at HN8 HFA HA;go_enter func169,ntmps169;go_wp2_with fail;refine(HC.o _ (Q0.o.al _)).mono ?_;rintro _ w1 ⟨rfl,h1,k1⟩;have Q1:=aa ((Q0.o.al _).call h1 k1);have HZ:=aa (k1.at (KS w _) (by omega));have hl1:=ag HZ.o;have c1:=Q1.o.pp.c0;have hp1:=Q1.o.pp.lt;have hb1:=h1.lt;clear h1 k1 HC;go_wp2_with fail;refine(HT.o _ (Q1.o.al _)).mono ?_;rintro _ w2 ⟨rfl,h2,k2⟩;have q2:=(Q1.o.al _).call h2 k2;have Q2:=aa q2;have hN2:=k2.at (KS w1 (.cells #[.string n,.string ⟨#[]⟩,.string ⟨#[]⟩,.string ⟨#[]⟩,.string ⟨#[]⟩,.pointer none] 180)) (by omega);have HN2:=aa hN2;have HR2:=aa (k2.at ((bp w1 _ _ hl1).trans HZ.o) (by omega));have hlN:=ag hN2;have c2:=q2.pp.c0;have hp2:=q2.pp.lt;have hb2:=h2.lt;clear h2 k2 q2 hN2 HT HZ Q1 c1
 go_upto_if 12 with fail
 go_cut [] (fun wc=>PQ w wc p b S G s4/\wc.heap[w.heap.size]?=some (.cells #[.string ⟨#[]⟩,.string ⟨#[]⟩,.string ⟨#[]⟩,.string ⟨#[]⟩,.string ⟨#[]⟩,.pointer none] 180 (0,0))/\wc.heap[w1.heap.size]?=some (.cells #[.string n,.string ⟨#[]⟩,.string ⟨#[]⟩,.string fx,.string fy,.pointer none] 180 (0,0)))
 case first=>
  cases e7:af s1 7
  ·rw[e7]at HFA Q2
   obtain⟨⟨e1,e2⟩,e3⟩:((fx=⟨#[]⟩/\fy=⟨#[]⟩)/\s4=s1):=by have:=HFA.o;simpa using this
   subst e1 e2 e3;go_wp2_with fail;go_meet;exact⟨Q2.o,HR2.o,HN2.o⟩
  ·rw[e7]at HFA Q2
   obtain⟨⟨e1,e2⟩,e3⟩:((fx=px/\fy=py)/\s4=ak s3 (af s3 8)):=by have:=HFA.o;simpa using this
   subst e1 e2 e3;go_wp2_with fail;refine(HA.o _ Q2.o).mono ?_;rintro _ w3 ⟨rfl,q3⟩;have hN3:=q3.kp.at HN2.o (by omega);have HN3:=aa hN3;have HR3:=aa (q3.kp.at HR2.o (by omega));have Q3:=aa (Q2.o.tr q3);have cN:=ae hN3;have fN:=ar hN3;have Nt:=ag hN3;have c3:=q3.pp.c0;have hp3:=q3.pp.lt;have hb3:=q3.ps.lt;have hpb:p<w1.heap.size:=by omega
   clear hN3 q3;go_wp2_with fail;refine(HN8.o _ ?_).mono ?_
   ·repeat' with_reducible first|exact Q3.o|refine PQ.st ?_ _ (Nat.le_of_lt hl1) _
   rintro _ w4 ⟨rfl,h4,k4⟩;go_wp2_with fail;go_meet;refine⟨PQ.call (s:=s3) ?_ h4 k4,k4.at ((KX _ _ _ _ (show w.heap.size≠w1.heap.size by omega)).trans ((KX _ _ _ _ (show w.heap.size≠w1.heap.size by omega)).trans HR3.o)) (by omega),k4.at (aJ (aJ HN3.o 3 _) 4 _) (by omega)⟩;repeat' with_reducible first|exact Q3.o|refine PQ.st ?_ _ (Nat.le_of_lt hl1) _
 case rest=>
  obtain⟨q5,hR,hN⟩:=hcut;have Q5:=aa q5;have HR:=aa hR;have HN:=aa hN;have c5:=q5.pp.c0;have hp5:=q5.pp.lt;have hb5:=q5.ps.lt;clear q5 hR hN HFA HA HN8 HN2 HR2 Q2 c2;go_wp2_with fail;refine(HN9.o _ Q5.o).mono ?_;rintro _ w6 ⟨rfl,h6,k6⟩;have q6:=Q5.o.call h6 k6;have Q6:=aa q6;have HR6:=aa (k6.at HR.o (by omega));have HN6:=aa (k6.at HN.o (by omega));have c6:=q6.pp.c0;have hp6:=q6.pp.lt;have hl6:=ag HN6.o;clear q6 h6 k6 Q5 HR HN HN9 c5;go_wp2_with fail;refine(HTY.o _ Q6.o).mono ?_;rintro _ w7 ⟨u,rfl,ht,h7,k7⟩;obtain⟨ku,rfl⟩:=ht.ptr;have Q7:=aa (Q6.o.call h7 k7);have HR7:=aa (k7.at HR6.o (by omega));have hN7:=k7.at HN6.o (by omega);have HN7:=aa hN7;have HTA:=aa ht;have cN:=ae hN7;have fN:=ar hN7;have hlN7:=ag hN7;have hln6:=h7.len;clear h7 k7 hN7 ht HTY Q6 HR6 HN6 c6;go_wp2_with fail;go_loopg [] (ln s6) (fun k wr=>∃(a h:Ls) (s':St) (f:Nat),ln s'<=k/\ln s'<=f/\PQ w wr p b S G s'/\wr.heap[w1.heap.size]?=some (.cells #[.string n,.string a,.string h,.string fx,.string fy,.pointer (some ⟨ku,0,none⟩)] 180 (0,0))/\wr.heap[w.heap.size]?=some (.cells #[.string ⟨#[]⟩,.string ⟨#[]⟩,.string ⟨#[]⟩,.string ⟨#[]⟩,.string ⟨#[]⟩,.pointer none] 180 (0,0))/\d9 wr w6.heap.size (.pointer (some ⟨ku,0,none⟩)) ty/\fo 801 s6 ⟨#[]⟩ ⟨#[]⟩=fo f s' a h)
  case atStart=>exact⟨_,_,s6,801,KK _,hln6,Q7.o.st _ (Nat.le_of_lt hl1) _,aJ HN7.o 5 _,(KX _ _ _ _ (show w.heap.size≠w1.heap.size by omega)).trans HR7.o,HTA.o.stays (au.set hl6 5 _),rfl⟩
  case round=>
   obtain⟨a,h,s',f,hlk,hlf,q,hN,hR,ht,hm⟩:=hrel;have QR:=aa q;have HN:=aa hN;have HR:=aa hR;have HTR:=aa ht;have HM:=aa hm;have c8:=q.pp.c0;have hp8:=q.pp.lt;have hb8:=q.ps.lt;have hTK:=aa (mM wr b G s' 11 q.ps);clear q hN hR ht hm Q7 HR7 HN7 HTA cN fN;cases e11:af s' 11
   ·rw[e11]at hTK
    have HE:=aa (show FF=(⟨n,a,h,fx,fy,ty⟩,s')from by
     rw[HQ.o,HM.o];cases f with
     |zero=>rfl
     |succ f=>rw[show fo (f+1) s' a h=((a,h),s')from by rw[fo,K8 (by rw[e11];simp)]])
    clear e11 HM HQ;go_wp2_with fail;refine hTK.o.mono ?_;rintro _ w8 ⟨rfl,h8,k8⟩;have Q8:=aa (show PQ w w8 p b S G s' from QR.o.call h8 k8);have hN8:=k8.at HN.o (by omega);have hR8:=k8.at HR.o (by omega);have cN:=ae hN8;have cR:=ae hR8;have fR:=ar hR8;have hlN8:=ag hN8;have hlR8:=ag hR8;have HT8:=aa (HTR.o.stays (QR.o.stay k8));clear h8 k8 hN8 hR8;go_wp2_with fail;refine bodyPost_ret (v:=.agg #[.string n,.string a,.string h,.string fx,.string fy,.pointer (some ⟨ku,0,none⟩)]) (by simp[results,results169,go_sem, *]) rfl ⟨.pointer (some ⟨ku,0,none⟩),by rw[HE.o];rfl,?_,?_⟩
    ·rw[HE.o]
     refine(HT8.o.stays ?_).mono (show w.heap.size<=w6.heap.size by omega);repeat' with_reducible first|exact au.refl _ _ _|refine au.set3 ?_ (show w.heap.size<w6.heap.size by omega) _ _
    ·rw[HE.o]
     repeat' with_reducible first|exact Q8.o|refine PQ.st ?_ _ (KK _) _
   ·rw[e11]at hTK
    have Oe:=eY s' 11 (by decide) e11;have hmk:=yt a h (tl s');obtain⟨f',rfl⟩:∃f',f=f'+1:=⟨f-1,by omega⟩;have HE:=aa (show fo 801 s6 ⟨#[]⟩ ⟨#[]⟩=fo f' (gp a h (tl s')).2 (gp a h (tl s')).1.1 (gp a h (tl s')).1.2 from by rw[HM.o,fo,K9 e11]);clear e11 HM;have HMK:=aa (fun W (hW:PQ w W p b S G (tl s')) hN=>Ie W p b S G w1.heap.size (tl s') n a h fx fy (.pointer (some ⟨ku,0,none⟩)) hW.pp hW.ps hN (by omega));go_wp2_with fail;refine hTK.o.mono ?_;rintro _ w8 ⟨rfl,h8,k8⟩;have Q8:=aa (show PQ w w8 p b S G (tl s')from QR.o.call h8 k8);have HN8:=aa (k8.at HN.o (by omega));have HR8:=aa (k8.at HR.o (by omega));have HT8:=aa (HTR.o.stays (QR.o.stay k8));have hlN8:=ag HN8.o;clear h8 k8;go_wp2_with fail;refine(HMK.o _ Q8.o HN8.o).mono ?_;rintro _ w9 ⟨rfl,h9,hN9,k9⟩;go_wp2_with fail;go_roundg (ln (gp a h (tl s')).2)
    case measure=>omega
    case rel=>
     obtain⟨cs,hcs⟩:=Q8.o.ps.ty;exact⟨_,_,_,f',KK _,by omega,Q8.o.two h9 k9 (Nat.le_of_lt hl1),hN9,(k9.block _ (ag HR8.o) (by omega) (by omega)).trans HR8.o,HT8.o.stays (au.of_keep2 k9 hcs HN8.o (by decide) (by decide)),HE.o⟩
theorem yK:∀(f:Nat) (s:St),ln (bU f s).2<=ln s
 |0,s=>KK _
 |f+1,s=>by
  rw[bU];split
  ·exact KP (Aw _ _) (KP (cg _ _) (KP (yK f (tl s)) (cK s)))
  ·exact KP (Aw _ _) (bH s)
theorem FJ(s:St):ln (jS s).2<=ln s:=by
 unfold jS;refine KP (cg _ _) (KP (cg _ _) ?_);unfold jf;split
 ·exact bH s
 ·split
  ·exact bH s
  ·simp[ln]
theorem C7(s:St):ln (ee s).2<=ln s:=by
 unfold ee;split
 ·exact KP (cg _ _) (KP (FJ _) (cK s))
 ·exact KK _
theorem z0:∀(f:Nat) (s:St) (a h:Ls),ln (fo f s a h).2<=ln s
 |0,s,a,h=>KK _
 |f+1,s,a,h=>by
  rw[fo];split
  ·exact KP (z0 f _ _ _) (KP (yt _ _ _) (cK s))
  ·exact KK _
theorem np(s:St):ln (bL s).2<=ln (ab s):=by
 unfold bL;exact KP (z0 _ _ _ _) (KP (yK _ _) (by unfold iu;exact KP (cg _ _) (C7 _)))
theorem pI(s:St)(h:af s 1=true):ln (ab s)<ln s:=by
 unfold ab;rw[K9 h];exact eY s 1 (by decide) h
def dv:Nat->St->List ax×St
 |0,s=>([],s)
 |f+1,s=>if af s 1=true then((bL s).1::(dv f (bL s).2).1,(dv f (bL s).2).2)else([],s)
def dC(s:St):List ax×St:=
 ((bL (ak s (af s 14))).1::(dv 801 (bL (ak s (af s 14))).2).1,ak (dv 801 (bL (ak s (af s 14))).2).2 (af (dv 801 (bL (ak s (af s 14))).2).2 15))
theorem p6(f:Nat)(s:St)(h:af s 1=false):dv f s=([],s):=by
 cases f with
 |zero=>rfl
 |succ f=>rw[dv,K8 (by rw[h];simp)]
theorem zV:∀(f:Nat) (s:St),ln (dv f s).2<=ln s
 |0,s=>KK _
 |f+1,s=>by
  rw[dv];split
  ·exact KP (zV f _) (KP (np s) (bH s))
  ·exact KK _
theorem oz(s:St):ln (dC s).2<=ln s:=by
 unfold dC;exact KP (cg _ _) (KP (zV _ _) (KP (np _) (KP (bH _) (cg _ _))))
def rx(L:List (ax×Value)):List Value:=L.flatMap fun x=>(qI x.1 x.2).toList
theorem D4(L:List (ax×Value))(x:ax×Value):rx (L++[x])=rx L++(qI x.1 x.2).toList:=by simp[rx]
def iv(w:World)(B:Nat)(v:Value)(l:List ax):Prop:=∃L:List (ax×Value),L.map Prod.fst=l/\w.ownsRow B 180 6 v L.length (rx L)/\∀x∈L,d9 w B x.2 x.1.ty
theorem dO{w w':World}{base size n:Nat}{e:TypeId}{v:Value}{xs:List Value}(h:w.ownsRow base e size v n xs)(hs:au e base w w'):w'.ownsRow base e size v n xs:=by
 refine⟨h.1,?_⟩;rcases h.2 with x|⟨g,cap,cur,hv,hg,hh,r⟩
 ·exact Or.inl x
 ·exact Or.inr ⟨g,cap,cur,hv,hg,hs g _ _ hg hh,r⟩
theorem iv.stays{w w':World}{B:Nat}{v:Value}{l:List ax}(h:iv w B v l)(h1:au 180 B w w')(h2:au 257 B w w'):iv w' B v l:=by
 obtain⟨L,e,ho,ht⟩:=h;exact⟨L,e,dO ho h1,fun x hx=>(ht x hx).stays h2⟩
theorem iv.mono{w:World}{B C:Nat}{v:Value}{l:List ax}(h:iv w B v l)(hc:C<=B):iv w C v l:=by
 obtain⟨L,e,ho,ht⟩:=h;exact⟨L,e,iJ ho hc,fun x hx=>(ht x hx).mono hc⟩
theorem PS.grown{w w':World}{b G B:Nat}{s:St}{row:Option Nat}(h:PS w b G s)(hg:w.grownBy w' row)(hr:∀k,row=some k->B<=k)(hb:b<B)(hG:G<B):PS w' b G s:=
 h.move (hg.block b h.lt (fun e=>by have:=hr b e.symm;omega)) (hg.block G h.glt (fun e=>by have:=hr G e.symm;omega)) hg.size
theorem PP.grown{w w':World}{p b S B:Nat}{row:Option Nat}(h:PP w p b S)(hg:w.grownBy w' row)(hr:∀k,row=some k->B<=k)(hp:p<B):PP w' p b S:=by
 unfold PP at*;rw[hg.block p (ag h) (fun e=>by have:=hr p e.symm;omega)];exact h
theorem au.grown{T:TypeId}{B:Nat}{w w':World}{row:Option Nat}{base size n:Nat}{e:TypeId}{v:Value}{xs:List Value}(hg:w.grownBy w' row)(ho:w.ownsRow base e size v n xs)(hr:row=v.ownBlock)(hT:e≠T):au T B w w':=fun k c fr _ a=>by
 rw[hg.block k (ag a) (fun x=>by
  rw[hr]at x;rcases ho.2 with⟨y,_⟩|⟨g,cap,cur,hv,hg,hh,r⟩
  ·rw[y]at x;cases x
  ·rw[hv]at x;cases x;rw[hh]at a;cases a;exact hT rfl)]
 exact a
theorem info180:(prog.info? 180).map (fun i=>(i.zero,i.size,i.bytes))=some (some (.agg #[.string ⟨#[]⟩,.string ⟨#[]⟩,.string ⟨#[]⟩,.string ⟨#[]⟩,.string ⟨#[]⟩,.pointer none]),6,88):=by kernel_rfl
theorem rM{a b c d e f:Value}(h1:a.oneCell'=true)(h2:b.oneCell'=true)(h3:c.oneCell'=true)(h4:d.oneCell'=true)(h5:e.oneCell'=true)(h6:f.oneCell'=true):∀u∈[a,b,c,d,e,f],u.oneCell'=true:=by
 intro u hu;simp at hu;rcases hu with rfl|rfl|rfl|rfl|rfl|rfl<;>assumption
theorem PQ.gr{w X Y:World}{p b S G:Nat}{s:St}(h:PQ w X p b S G s){row:Option Nat}(hg:X.grownBy Y row)(hr:∀k,row=some k->w.heap.size<=k):PQ w Y p b S G s:=⟨⟨h.ps.grown hg hr h.hb h.hg,h.kp.grown hg hr,h.hb,h.hg⟩,h.pp.grown hg hr h.hp,h.hp⟩
theorem yW(w:World)(p b S G:Nat)(s:St)(hP:PP w p b S)(h:PS w b G s):
 Calls prog 135 #[.pointer (some ⟨p,0,none⟩)] w fun e w'=>∃v,e=.returned v/\iv w' w.heap.size v (dC s).1/\(dC s).1.length<=802/\PQ w w' p b S G (dC s).2:=by
 obtain⟨i0,hi,hz0,hz1,hz2⟩:=info_parts info180;have Q0:=aa (hP.pq h);have hlt:=h.lt;have hpl:=hP.lt;have c:=hP.c0;have HQ:=aa (show dC s=((bL (ak s (af s 14))).1::(dv 801 (bL (ak s (af s 14))).2).1,ak (dv 801 (bL (ak s (af s 14))).2).2 (af (dv 801 (bL (ak s (af s 14))).2).2 15))from rfl);generalize dC s=FF at*;have HN:=aa (fun W (hW:PQ w W p b S G s)=>iG W b G s 14 hW.ps);have hl0:=KP (cg s (af s 14)) h.len;clear h hP;generalize (ce s 14).k=nk at*;generalize (ce s 14).n=nn at*;generalize (ce s 14).s=ny at*;generalize ak s (af s 14)=s1 at*;have HF:=aa (fun W s' (hW:PQ w W p b S G s')=>Ga W p b S G s' hW.pp hW.ps);have HF1:=aa (HF.o · s1);have hl2:=KP (np s1) (KP (bH s1) hl0);generalize bL s1=f0 at*;obtain⟨⟨fn,fa,fh,fx,fs,ft⟩,s2⟩:=f0;simp only[qI]at HF1 hl2;go_enter func135,ntmps135;go_wp2_with fail;refine(HN.o _ Q0.o).mono ?_;rintro _ w1 ⟨rfl,h1,k1⟩;have Q1:=aa (Q0.o.call h1 k1);clear h1 k1 HN;go_wp2_with fail;refine(HF1.o _ Q1.o).mono ?_;rintro _ w2 ⟨u,rfl,ht,q2⟩;obtain⟨ku,rfl⟩:=ht.ptr;have HT2:=aa (ht.mono Q1.o.kp.size);have Q2:=aa (Q1.o.tr q2);clear ht q2 HF1 Q1;go_wp2_with fail;go_loopg [3] (ln s2) (fun k v wr=>∃(L:List (ax×Value)) (s':St) (f:Nat),ln s'<=k/\ln s'<=f/\PQ w wr p b S G s'/\wr.ownsRow w.heap.size 180 6 v L.length (rx L)/\(∀x∈L,d9 wr w.heap.size x.2 x.1.ty)/\L.length+ln s'<=802/\((⟨fn,fa,fh,fx,fs,ft⟩:ax)::(dv 801 s2).1,(dv 801 s2).2)=(L.map Prod.fst++(dv f s').1,(dv f s').2))
 case atStart=>
  refine⟨[(⟨fn,fa,fh,fx,fs,ft⟩,.pointer (some ⟨ku,0,none⟩))],s2,801,KK _,hl2,Q2.o.al _,?_,?_,by simp;omega,rfl⟩
  ·exact⟨rfl,Or.inr ⟨w2.heap.size,1,_,rfl,Q2.o.kp.size,KS w2 _,KK _,by decide,rfl,rfl⟩⟩
  ·intro x hx;rw[List.mem_singleton]at hx;subst hx;exact HT2.o.stays (au.alloc _)
 case round=>
  obtain⟨L,s',f,hlk,hlf,q,LJ,ht,hLn,hrel⟩:=hrel;obtain⟨aL,cL,rfl⟩:=bc LJ;have HM:=aa hrel;have QR:=aa q;have HO:=aa LJ;have HT:=aa ht;have c4:=q.pp.c0;have hp4:=q.pp.lt;have hSE:=aa (qw wr b G s' 1 q.ps);clear q LJ ht hrel Q2 HT2;cases hx:af s' 1
  ·rw[hx]at hSE
   have HE:=aa (show FF=(L.map Prod.fst,ak s' (af s' 15))from by
    have:=HM.o;rw[p6 f s' hx]at this;simp only[Prod.mk.injEq,List.append_nil]at this;rw[HQ.o];rw[this.1,this.2])
   have HN:=aa (fun W (hW:PQ w W p b S G s')=>iG W b G s' 15 hW.ps);generalize (ce s' 15).k=mk at*;generalize (ce s' 15).n=mn at*;generalize (ce s' 15).s=my at*;clear hx HM HQ HF;go_wp2_with fail;refine hSE.o.mono ?_;rintro _ w5 ⟨rfl,b5⟩;have Q5:=aa (QR.o.be b5);have c5:=Q5.o.pp.c0;have hp5:=Q5.o.pp.lt;have HO5:=aa (bZ HO.o b5);have HT5:=aa (fun x hx=>(HT.o x hx).stays (au.of_below b5));clear b5;go_wp2_with fail;refine(HN.o _ Q5.o).mono ?_;rintro _ w6 ⟨rfl,h6,k6⟩;go_wp2_with fail;go_ret;exact⟨_,rfl,by rw[HE.o];exact⟨L,rfl,dO HO5.o (Q5.o.stay k6),fun x hx=>(HT5.o x hx).stays (Q5.o.stay k6)⟩,by rw[HE.o];simp;omega,by rw[HE.o];exact Q5.o.call h6 k6⟩
  ·rw[hx]at hSE
   have Oe:=pI s' hx;have hlf1:=np s';obtain⟨f',rfl⟩:∃f',f=f'+1:=⟨f-1,by omega⟩;have HE:=aa (show((⟨fn,fa,fh,fx,fs,ft⟩:ax)::(dv 801 s2).1,(dv 801 s2).2)=(L.map Prod.fst++((bL s').1::(dv f' (bL s').2).1),(dv f' (bL s').2).2)from by
    rw[HM.o,dv,K9 hx])
   have HF2:=aa (HF.o · s');clear hx HM HF;generalize bL s'=f1 at*;obtain⟨⟨gn,ga,gh,gx,gs,gt⟩,s3⟩:=f1;simp only[qI]at HF2 HE hlf1;go_wp2_with fail;refine hSE.o.mono ?_;rintro _ w5 ⟨rfl,b5⟩;have Q5:=aa (QR.o.be b5);have HO5:=aa (bZ HO.o b5);have HT5:=aa (fun x hx=>(HT.o x hx).stays (au.of_below b5));clear b5;go_wp2_with fail;refine(HF2.o _ Q5.o).mono ?_;rintro _ w6 ⟨u,rfl,t6,q6⟩;obtain⟨kv,rfl⟩:=t6.ptr;have hO6:=dO HO5.o (Q5.o.stay q6.kp);have HT6:=aa (fun x hx=>(HT5.o x hx).stays (Q5.o.stay q6.kp));have HU6:=aa (t6.mono Q5.o.kp.size);have Q6:=aa (Q5.o.tr q6);have z6:=Q6.o.kp.size;have HLO:=aa (fun k hk=>(hO6.lt k hk).1);clear q6 t6 HO5 HT5 Q5;go_wp2_with (at_builtin;refine wpList_append_own _ rfl _ _ 158 rfl w.heap.size 180 i0 _ 6 88 underlying158 hi hz0 hz1 hz2 rfl (by decide) _ _ _ rfl (hO6.alloc _) ⟨w6.heap.size,0,none⟩ 1 1 [.string gn,.string ga,.string gh,.string gx,.string gs,.pointer (some ⟨kv,0,none⟩)] rfl rfl (de _ _ _ _ (by simp)) (rM rfl rfl rfl rfl rfl rfl) (by unfold maxLen;omega) (by omega) (by simp;omega) ?_;intro v' w7 hown' hgrow _);have Q7:=aa ((Q6.o.al _).gr hgrow HLO.o);have HS7:=aa (show au 257 w.heap.size w6 w7 from(au.alloc _).trans (au.grown hgrow (hO6.alloc _) rfl (by decide)));have HO7:=aa hown';clear hown' hgrow hO6;go_roundg (ln s3)
   case measure=>omega
   case rel=>
    refine⟨L++[(⟨gn,ga,gh,gx,gs,gt⟩,.pointer (some ⟨kv,0,none⟩))],s3,f',KK _,by omega,Q7.o,by rw[D4,Lb];exact HO7.o,fun x hx=>?_,by simp;omega,by rw[HE.o];simp⟩;rcases List.mem_append.1 hx with hx|hx
    ·exact(HT6.o x hx).stays HS7.o
    ·rw[List.mem_singleton]at hx;subst hx;exact HU6.o.stays HS7.o
end Go.Proofs.YtgbloieahmkcjaaGreat
