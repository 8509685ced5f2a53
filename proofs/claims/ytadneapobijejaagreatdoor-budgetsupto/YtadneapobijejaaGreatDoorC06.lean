import Derived.Test.YtadneapobijejaaGreatDoorC05
import Derived.Deep.RegionWith
import Derived.Deep.LoopGhost
import Derived.Deep.CutBlock
import Derived.Deep.RegionHeld3
namespace Go.Proofs.YtadneapobijejaaGreatDoor
set_option maxHeartbeats 20000000
set_option maxRecDepth 100000
open Go.RowKit Tryz
structure PK(w X:World)(b G:Nat)(s:St):Prop where
 ps:PS X b G s
 kp:Ag b w X
 hb:b<w.heap.size
 hg:G<w.heap.size
section
variable {w X Y:World} {b G:Nat} {s s':St}
theorem PS.pk(h:PS w b G s):PK w w b G s:=⟨h,Ag.refl b w,h.lt,h.glt⟩
theorem PK.al(h:PK w X b G s)(o:Obj):PK w (X.alloc o) b G s:=⟨h.ps.alloc o,h.kp.alloc o,h.hb,h.hg⟩
theorem PK.dr(h:PK w X b G s):PK w X.drew b G s:=⟨h.ps.move rfl rfl (tL _),h.kp.drew,h.hb,h.hg⟩
theorem PK.st(h:PK w X b G s)(a:Addr)(ha:w.heap.size<=a.block)(v:Value):PK w (X.setCell a v) b G s:=⟨h.ps.move (tX _ _ _ _ (by have:=h.hb;omega)) (tX _ _ _ _ (by have:=h.hg;omega)) (by simp[World.setCell]),h.kp.setNew a ha v,h.hb,h.hg⟩
theorem PK.call(h:PK w X b G s)(hp:PS Y b G s')(k:Ag b X Y):PK w Y b G s':=⟨hp,h.kp.trans k,h.hb,h.hg⟩
theorem PK.tr(h:PK w X b G s)(k:PK X Y b G s'):PK w Y b G s':=⟨k.ps,h.kp.trans k.kp,h.hb,h.hg⟩
theorem PK.be(h:PK w X b G s)(k:vE X Y):PK w Y b G s:=⟨h.ps.below k,h.kp.trans (Ag.of_below k),h.hb,h.hg⟩
end
structure PQ(w X:World)(p b S G:Nat)(s:St):Prop extends PK w X b G s where
 pp:PP X p b S
 hp:p<w.heap.size
section
variable {w X Y:World} {p b S G F:Nat} {s s':St}
theorem PP.pq(hP:PP w p b S)(h:PS w b G s):PQ w w p b S G s:=⟨h.pk,hP,hP.lt⟩
theorem PQ.al(h:PQ w X p b S G s)(o:Obj):PQ w (X.alloc o) p b S G s:=⟨h.toPK.al o,h.pp.alloc o,h.hp⟩
theorem PQ.dr(h:PQ w X p b S G s):PQ w X.drew p b S G s:=⟨h.toPK.dr,h.pp,h.hp⟩
theorem PQ.st(h:PQ w X p b S G s)(a:Addr)(ha:w.heap.size<=a.block)(v:Value):PQ w (X.setCell a v) p b S G s:=⟨h.toPK.st a ha v,(tX _ _ _ _ (by have:=h.hp;omega)).trans h.pp,h.hp⟩
theorem PQ.call(h:PQ w X p b S G s)(hp:PS Y b G s')(k:Ag b X Y):PQ w Y p b S G s':=⟨h.toPK.call hp k,h.pp.keep h.ps k,h.hp⟩
theorem PQ.two(h:PQ w X p b S G s)(hp:PS Y b G s')(k:CC b F X Y)(hF:w.heap.size<=F):PQ w Y p b S G s':=⟨⟨hp,h.kp.two k hF,h.hb,h.hg⟩,(k.block p h.pp.lt (by obtain⟨c,hc⟩:=h.ps.ty;exact h.pp.ne hc (by decide)) (by have:=h.hp;omega)).trans h.pp,h.hp⟩
theorem PQ.tr(h:PQ w X p b S G s)(k:PQ X Y p b S G s'):PQ w Y p b S G s':=⟨h.toPK.tr k.toPK,k.pp,h.hp⟩
theorem PQ.kt(h:PQ w X p b S G s)(k:PK X Y b G s'):PQ w Y p b S G s':=h.call k.ps k.kp
theorem PQ.be(h:PQ w X p b S G s)(k:vE X Y):PQ w Y p b S G s:=⟨h.toPK.be k,h.pp.below k,h.hp⟩
end
def Jd(x:vD)(s:St):St:=if x=Ih then s else if x=If then s else if x=Lt then s else none
def pVal(s:St):St:=if (hd s).k=2 then tl s else if (hd s).k=3 then tl s else if (hd s).k=1 then Jd (hd s).s (tl s)else none
def IS(s:St):St:=if Bn s MI=true then tl s else pVal s
def Kk(x:vD):Nat:=if x=Ih then 3 else if x=If then 4 else 0
theorem tJ(w:World)(b G:Nat)(s:St)(x:vD)(h:PS w b G s):
 Calls prog 120 #[.pointer (some ⟨b,0,none⟩),.string x] w fun e w'=>e=.returned (.agg #[.int .i64 (Kk x),.int .i64 0,.string ⟨#[]⟩])/\PK w w' b G (Jd x s):=by
 have K0:=Aa h.pk;have hlt:=h.lt;have L1:=BN x [116,114,117,101];have L2:=BN x [102,97,108,115,101];have L3:=BN x [110,117,108,108];clear h;unfold Kk Jd;by_cases e1:x=Ih
 ·rw[uC e1,uC e1]
  rw[uH (show x=Az _ from e1)]at L1;clear e1;go_enter func120,ntmps120;go_wp2_with fail;exact bodyPost_ret (v:=.agg #[.int .i64 3,.int .i64 0,.string ⟨#[]⟩]) (by simp[results,results120,go_sem]) rfl ⟨rfl,K0.o.al _⟩
 rw[uB e1,uB e1];rw[tT (show¬x=Az _ from e1)]at L1;by_cases e2:x=If
 ·rw[uC e2,uC e2]
  rw[uH (show x=Az _ from e2)]at L2;clear e1 e2;go_enter func120,ntmps120;go_wp2_with fail;exact bodyPost_ret (v:=.agg #[.int .i64 4,.int .i64 0,.string ⟨#[]⟩]) (by simp[results,results120,go_sem]) rfl ⟨rfl,K0.o.al _⟩
 rw[uB e2,uB e2];rw[tT (show¬x=Az _ from e2)]at L2;by_cases e3:x=Lt
 ·rw[uC e3]
  rw[uH (show x=Az _ from e3)]at L3;clear e1 e2 e3;go_enter func120,ntmps120;go_wp2_with fail;exact bodyPost_ret (v:=.agg #[.int .i64 0,.int .i64 0,.string ⟨#[]⟩]) (by simp[results,results120,go_sem]) rfl ⟨rfl,K0.o.al _⟩
 rw[uB e3];rw[tT (show¬x=Az _ from e3)]at L3;clear e1 e2 e3;go_enter func120,ntmps120;go_wp2_with fail;refine(FO _ b G s (K0.o.al _).ps).mono ?_;rintro _ w2 ⟨rfl,h2,k2⟩;have K2:=Aa ((K0.o.al _).call h2 k2);have hz:=k2.at (tS w _) (by omega);have c:=Ac hz;have f:=Am hz;have hl:=Ab hz;clear h2 k2 hz;go_wp2_with fail;refine bodyPost_ret (v:=.agg #[.int .i64 0,.int .i64 0,.string ⟨#[]⟩]) (by simp[results,results120,go_sem, *]) rfl ⟨rfl,?_⟩;repeat' with_reducible first|exact K2.o|refine PK.st ?_ _ (tL _) _
def valK(s:St):Nat×Int×vD:=if (hd s).k=2 then(1,(hd s).n,⟨#[]⟩)else if (hd s).k=3 then(2,0,(hd s).s)else if (hd s).k=1 then(Kk (hd s).s,0,⟨#[]⟩)else(0,0,⟨#[]⟩)
theorem NK(w:World)(b G:Nat)(s:St)(h:PS w b G s):
 Calls prog 71 #[.pointer (some ⟨b,0,none⟩)] w fun e w'=>e=.returned (.agg #[.int .i64 (valK s).1,.int .i64 (valK s).2.1,.string (valK s).2.2])/\PK w w' b G (pVal s):=by
 have K0:=Aa h.pk;have hlt:=h.lt;have HC:=Aa (fun W (hW:PK w W b G s)=>OK W b G s hW.ps);have HQ:=Aa (show pVal s=(if (hd s).k=2 then tl s else if (hd s).k=3 then tl s else if (hd s).k=1 then Jd (hd s).s (tl s)else none)from rfl);have HV:=Aa (valK.eq_1 s);clear h;generalize pVal s=FF at*;generalize valK s=vv at*;generalize (hd s).k=kk at*;generalize (hd s).s=yy at*;generalize (hd s).n=nn at*;by_cases e1:kk=2
 ·rw[uC e1]at HQ HV
  have T1:((kk:Int)==2)=true:=by simp;omega
  clear e1;go_enter func71,ntmps71;go_wp2_with fail;refine(HC.o _ (K0.o.al _)).mono ?_;rintro _ w2 ⟨rfl,h2,k2⟩;have K2:=Aa ((K0.o.al _).call h2 k2);have hz:=k2.at (tS w _) (by omega);have c:=Ac hz;have f:=Am hz;have hl:=Ab hz;clear h2 k2 hz;go_wp2_with fail;rw[HQ.o,HV.o];refine bodyPost_ret (v:=.agg #[.int .i64 1,.int .i64 nn,.string ⟨#[]⟩]) (by simp[results,results71,go_sem, *]) rfl ⟨rfl,?_⟩;repeat' with_reducible first|exact K2.o|refine PK.al ?_ _|refine PK.st ?_ _ (tL _) _
 by_cases e2:kk=3
 ·rw[uB e1,uC e2]at HQ HV
  have T1:((kk:Int)==2)=false:=by simp;omega
  have T2:((kk:Int)==3)=true:=by simp;omega
  clear e1 e2;go_enter func71,ntmps71;go_wp2_with fail;refine(HC.o _ (K0.o.al _)).mono ?_;rintro _ w2 ⟨rfl,h2,k2⟩;have K2:=Aa ((K0.o.al _).call h2 k2);have hz:=k2.at (tS w _) (by omega);have c:=Ac hz;have f:=Am hz;have hl:=Ab hz;clear h2 k2 hz;go_wp2_with fail;rw[HQ.o,HV.o];refine bodyPost_ret (v:=.agg #[.int .i64 2,.int .i64 0,.string yy]) (by simp[results,results71,go_sem, *]) rfl ⟨rfl,?_⟩;repeat' with_reducible first|exact K2.o|refine PK.al ?_ _|refine PK.st ?_ _ (tL _) _
 by_cases e3:kk=1
 ·rw[uB e1,uB e2,uC e3]at HQ HV
  have T1:((kk:Int)==2)=false:=by simp;omega
  have T2:((kk:Int)==3)=false:=by simp;omega
  have T3:((kk:Int)==1)=true:=by simp;omega
  clear e1 e2 e3;go_enter func71,ntmps71;go_wp2_with fail;refine(HC.o _ (K0.o.al _)).mono ?_;rintro _ w2 ⟨rfl,h2,k2⟩;have K2:=Aa ((K0.o.al _).call h2 k2);have hz:=k2.at (tS w _) (by omega);have HZ:=Aa hz;have hl:=Ab hz;clear h2 k2 hz;go_wp2_with fail;refine(tJ _ b G (tl s) yy (K2.o.al _).ps).mono ?_;rintro _ w3 ⟨rfl,h3⟩;have hz:=h3.kp.at ((AK w2 _ _ hl).trans HZ.o) (by omega);have c:=Ac hz;have f:=Am hz;have hl3:=Ab hz;have K3:=Aa ((K2.o.al _).tr h3);clear h3 hz;go_wp2_with fail;rw[HQ.o,HV.o];refine bodyPost_ret (v:=.agg #[.int .i64 (Kk yy),.int .i64 0,.string ⟨#[]⟩]) (by simp[results,results71,go_sem, *]) rfl ⟨rfl,?_⟩;repeat' with_reducible first|exact K3.o|refine PK.al ?_ _|refine PK.st ?_ _ (tL _) _
 rw[uB e1,uB e2,uB e3]at HQ HV;have T1:((kk:Int)==2)=false:=by simp;omega
 have T2:((kk:Int)==3)=false:=by simp;omega
 have T3:((kk:Int)==1)=false:=by simp;omega
 clear e1 e2 e3;go_enter func71,ntmps71;go_wp2_with fail;refine(HC.o _ (K0.o.al _)).mono ?_;rintro _ w2 ⟨rfl,h2,k2⟩;have K2:=Aa ((K0.o.al _).call h2 k2);have hz:=k2.at (tS w _) (by omega);have HZ:=Aa hz;have hl:=Ab hz;clear h2 k2 hz;go_wp2_with fail;refine(FO _ b G (tl s) (K2.o.al _).ps).mono ?_;rintro _ w3 ⟨rfl,h3,k3⟩;have hz:=k3.at ((AK w2 _ _ hl).trans HZ.o) (by omega);have c:=Ac hz;have f:=Am hz;have hl3:=Ab hz;have K3:=Aa ((K2.o.al _).call h3 k3);clear h3 k3 hz;go_wp2_with fail;rw[HQ.o,HV.o];refine bodyPost_ret (v:=.agg #[.int .i64 0,.int .i64 0,.string ⟨#[]⟩]) (by simp[results,results71,go_sem, *]) rfl ⟨rfl,?_⟩;repeat' with_reducible first|exact K3.o|refine PK.al ?_ _|refine PK.st ?_ _ (tL _) _
def Ml(s:St):Nat×Int×vD:=if Bn s MI=true then(5,0,⟨#[]⟩)else valK s
theorem pX(w:World)(p b S G:Nat)(s:St)(hP:PP w p b S)(h:PS w b G s):
 Calls prog 239 #[.pointer (some ⟨p,0,none⟩)] w fun e w'=>e=.returned (.agg #[.int .i64 (Ml s).1,.int .i64 (Ml s).2.1,.string (Ml s).2.2])/\PQ w w' p b S G (IS s):=by
 have Q0:=Aa (hP.pq h);have hlt:=h.lt;have hpl:=hP.lt;have c:=hP.c0;have HT:=Aa (fun W (hW:PQ w W p b S G s)=>Lf W b G s MI hW.ps);have HV:=Aa (fun W (hW:PQ w W p b S G s)=>NK W b G s hW.ps);unfold Ml IS;clear h hP;cases e:Bn s MI
 rotate_left
 ·rw[e]at HT
  clear e HV;rw[uC rfl,uC rfl];go_enter func239,ntmps239;go_wp2_with fail;refine(HT.o _ (Q0.o.al _)).mono ?_;rintro _ w1 ⟨rfl,h1,k1⟩;have Q1:=Aa (show PQ w w1 p b S G (tl s)from(Q0.o.al _).call h1 k1);have hz:=k1.at (tS w _) (by omega);have c1:=Ac hz;have f1:=Am hz;have hl:=Ab hz;clear h1 k1 hz;go_wp2_with fail;refine bodyPost_ret (v:=.agg #[.int .i64 5,.int .i64 0,.string ⟨#[]⟩]) (by simp[results,results239,go_sem, *]) rfl ⟨rfl,?_⟩;show PQ _ _ _ _ _ _ (tl s);repeat' with_reducible first|exact Q1.o|refine PQ.al ?_ _|refine PQ.st ?_ _ (tL _) _
 ·rw[e]at HT
  clear e;rw[uB (by decide),uB (by decide)];generalize valK s=vv at*;generalize pVal s=sv at*;go_enter func239,ntmps239;go_wp2_with fail;refine(HT.o _ (Q0.o.al _)).mono ?_;rintro _ w1 ⟨rfl,h1,k1⟩;have Q1:=Aa ((Q0.o.al _).call h1 k1);have HZ:=Aa (k1.at (tS w _) (by omega));have c1:=Q1.o.pp.c0;have hl1:=Q1.o.pp.lt;clear h1 k1;go_wp2_with fail;refine(HV.o _ Q1.o).mono ?_;rintro _ w2 ⟨rfl,k2⟩;have hz:=k2.kp.at HZ.o (by omega);have c2:=Ac hz;have f2:=Am hz;have hl2:=Ab hz;have Q2:=Aa (Q1.o.kt k2);clear k2 hz;go_wp2_with fail;refine bodyPost_ret (v:=.agg #[.int .i64 vv.1,.int .i64 vv.2.1,.string vv.2.2]) (by simp[results,results239,go_sem, *]) rfl ⟨rfl,?_⟩;repeat' with_reducible first|exact Q2.o|refine PQ.al ?_ _|refine PQ.st ?_ _ (tL _) _
def Nr(n:vD):vD:=if n=CI then⟨#[73,68]⟩else if n=MB then⟨#[73,110,116]⟩else⟨#[]⟩
def Fy(s:St):St:=if nm s=CI then nmT s else if nm s=MB then nmT s else none
def GM(s:St):(vD×vD)×St:=
 ((nm s,Nr (nm s)),mustT (mustT (Fy s) (Ad (Fy s) 9)) (Bn (mustT (Fy s) (Ad (Fy s) 9)) (Nr (nm s))))
theorem pK(w:World)(p b S G:Nat)(s:St)(hP:PP w p b S)(h:PS w b G s):
 Calls prog 221 #[.pointer (some ⟨p,0,none⟩)] w fun e w'=>e=.returned (.agg #[.string (GM s).1.1,.string (GM s).1.2])/\PQ w w' p b S G (GM s).2:=by
 have Q0:=Aa (hP.pq h);have hlt:=h.lt;have hpl:=hP.lt;have c:=hP.c0;have HC:=Aa (fun W (hW:PQ w W p b S G s)=>Nu W p b S G s hW.pp hW.ps);have HF:=Aa (fun W (hW:PQ w W p b S G (nmT s))=>FO W b G (nmT s) hW.ps);have HN:=Aa (fun W (hW:PQ w W p b S G (Fy s))=>Cc W b G (Fy s) 9 hW.ps);have HW:=Aa (fun W (hW:PQ w W p b S G (mustT (Fy s) (Ad (Fy s) 9)))=>OJ W b G _ (Nr (nm s)) hW.ps);have HS:=Aa (uV (Nr.eq_1 (nm s)) (Fy.eq_1 s));have L1:=BN (nm s) [105,100];have L2:=BN (nm s) [102,105,114,115,116];unfold GM;generalize (Ay (Fy s) 9).k=nk at*;generalize (Ay (Fy s) 9).n=nn at*;generalize (Ay (Fy s) 9).s=ny at*;generalize Ad (Fy s) 9=i9 at*;generalize Fy s=sa at*;generalize Nr (nm s)=sc at*;generalize nm s=n at*;clear h hP;go_enter func221,ntmps221;go_wp2_with fail;refine(HC.o _ (Q0.o.al _)).mono ?_;rintro _ w1 ⟨rfl,h1,k1⟩;have Q1:=Aa ((Q0.o.al _).call h1 k1);have HZ:=Aa (k1.at (tS w _) (by omega));have hl1:=Ab HZ.o;have c1:=Q1.o.pp.c0;have hp1:=Q1.o.pp.lt;have hb1:=h1.lt;clear h1 k1 HC
 go_upto_block 0 with fail
 go_cut [] (fun wc=>PQ w wc p b S G sa/\wc.heap[w.heap.size]?=some (.cells #[.string ⟨#[]⟩,.string ⟨#[]⟩] 245 (0,0))/\wc.heap[w1.heap.size]?=some (.cells #[.string n,.string sc] 245 (0,0)))
 case first=>
  have hz:=(AK w1 (.cells #[.string n,.string ⟨#[]⟩] 245) _ hl1).trans HZ.o;by_cases e1:n=CI
  ·rw[uC e1,uC e1]at HS
   rw[uH (show n=Az [105,100]from e1)]at L1;clear e1;go_wp2_with fail;go_meet;rw[HS.o.1,HS.o.2];exact⟨Q1.o.al _,(AK w1 _ _ hl1).trans HZ.o,tS w1 _⟩
  rw[uB e1,uB e1]at HS;rw[tT (show¬n=Az [105,100]from e1)]at L1;by_cases e2:n=MB
  ·rw[uC e2,uC e2]at HS
   rw[uH (show n=Az [102,105,114,115,116]from e2)]at L2;clear e1 e2;go_wp2_with fail;go_meet;rw[HS.o.1,HS.o.2];exact⟨Q1.o.al _,(AK w1 _ _ hl1).trans HZ.o,tS w1 _⟩
  rw[uB e2,uB e2]at HS;rw[tT (show¬n=Az [102,105,114,115,116]from e2)]at L2;clear e1 e2;go_wp2_with fail;refine(HF.o _ (Q1.o.al _)).mono ?_;rintro _ w2 ⟨rfl,h2,k2⟩;go_wp2_with fail;go_meet;rw[HS.o.1,HS.o.2];exact⟨(Q1.o.al _).call h2 k2,k2.at ((AK w1 _ _ hl1).trans HZ.o) (by omega),k2.at (tS w1 _) (by omega)⟩
 case rest=>
  obtain⟨q2,hR,hA⟩:=hcut;have c2:=q2.pp.c0;have hp2:=q2.pp.lt;have Q2:=Aa q2;have HR:=Aa hR;have HA:=Aa hA;have hb2:=q2.ps.lt;clear q2 hR hA HS L1 L2 HF HZ Q1;go_wp2_with fail;refine(HN.o _ Q2.o).mono ?_;rintro _ w3 ⟨rfl,h3,k3⟩;have q3:=Q2.o.call h3 k3;have hA3:=k3.at HA.o (by omega);have Q3:=Aa q3;have HA3:=Aa hA3;have HR3:=Aa (k3.at HR.o (by omega));have c3:=q3.pp.c0;have hp3:=q3.pp.lt;have cA:=Ac hA3;have hlA:=Ab hA3;have hb3:=h3.lt;clear h3 k3 HR HA Q2 q3 hA3 HN;go_upto_region 9 with fail;go_cut [] (fun wd=>PQ w wd p b S G (mustT (mustT sa i9) (Bn (mustT sa i9) sc))/\wd.heap[w.heap.size]?=some (.cells #[.string ⟨#[]⟩,.string ⟨#[]⟩] 245 (0,0))/\wd.heap[w1.heap.size]?=some (.cells #[.string n,.string sc] 245 (0,0)))
  case first=>
   go_region_with (go_at_call 119;refine(HW.o _ ?_).mono ?_;(first|exact Q3.o.dr|exact Q3.o);rintro _ w4 ⟨rfl,h4,k4⟩);all_goals(try go_wp2_with fail)
   all_goals(go_meet;exact⟨(by first|exact Q3.o.dr.call h4 k4|exact Q3.o.call h4 k4),k4.at HR3.o (by omega),k4.at HA3.o (by omega)⟩)
  case rest=>
   obtain⟨q5,hR,hA⟩:=hcut;have Q5:=Aa q5;have cA:=Ac hA;have cR:=Ac hR;have fR:=Am hR;have hlA:=Ab hA;have hlR:=Ab hR;clear q5 hR hA HR3 HA3 Q3 c3 HW;go_wp2_with fail;refine bodyPost_ret (v:=.agg #[.string n,.string sc]) (by simp[results,results221,go_sem, *]) rfl ⟨rfl,?_⟩;repeat' with_reducible first|exact Q5.o|refine PQ.al ?_ _|refine PQ.st ?_ _ (tL _) _
structure Al where
 name:vD
 auth:vD
 hide_:vD
 arg:vD
 scalar:vD
 ty:Bo
def EI:Nat->St->vD->vD->(vD×vD)×St
 |0,s,a,h=>((a,h),s)
 |f+1,s,a,h=>if Ad s 11=true then EI f (Ee a h (tl s)).2 (Ee a h (tl s)).1.1 (Ee a h (tl s)).1.2 else((a,h),s)
def Ed(s:St):(vD×vD)×St:=
 if Ad s 7=true then((GM (tl s)).1,mustT (GM (tl s)).2 (Ad (GM (tl s)).2 8))else((⟨#[]⟩,⟨#[]⟩),s)
def Iu(s:St):St:=mustT (Ed (nmT s)).2 (Ad (Ed (nmT s)).2 9)
def Dj(s:St):Al×St:=
 (⟨nm s,(EI 801 (BL 802 (Iu s)).2 ⟨#[]⟩ ⟨#[]⟩).1.1,(EI 801 (BL 802 (Iu s)).2 ⟨#[]⟩ ⟨#[]⟩).1.2,(Ed (nmT s)).1.1,(Ed (nmT s)).1.2,(BL 802 (Iu s)).1⟩,(EI 801 (BL 802 (Iu s)).2 ⟨#[]⟩ ⟨#[]⟩).2)
def LX(f:Al)(u:Value):Array Value:=#[.string f.name,.string f.auth,.string f.hide_,.string f.arg,.string f.scalar,u]
theorem Vg(r:vD)(s:St):ln (EH r s).2<=ln s:=by
 unfold EH;refine tQ (Do _ _) (tQ (AZ _) (tQ (Do _ _) ?_));split
 ·exact tL _
 ·simp[ln]
theorem Vf(a h:vD)(s:St):ln (Ee a h s).2<=ln s:=by
 unfold Ee;split
 ·exact tQ (Vg _ _) (AZ _)
 ·split
  ·exact tQ (Vg _ _) (AZ _)
  ·simp[ln]
theorem Ao.of_keep2{T:TypeId}{B:Nat}{w w':World}{b F:Nat}{cb cF:Array Value}{Tb TF:TypeId}{fb fF:Nat×Nat}(h:CC b F w w')(hb:w.heap[b]?=some (.cells cb Tb fb))(hF:w.heap[F]?=some (.cells cF TF fF))(h1:Tb≠T)(h2:TF≠T):Ao T B w w':=fun k c fr' _ a=>by
 rw[h.block k (Ab a) (fun e=>by subst e;rw[hb]at a;cases a;exact h1 rfl) (fun e=>by subst e;rw[hF]at a;cases a;exact h2 rfl)];exact a
theorem pS(w:World)(p b S G:Nat)(s:St)(hP:PP w p b S)(h:PS w b G s):
 Calls prog 222 #[.pointer (some ⟨p,0,none⟩)] w fun e w'=>∃u,e=.returned u/\Bu w' w.heap.size u (BL 802 s).1/\PS w' b G (BL 802 s).2/\Ag b w w':=
 (pT 801 w p b S G s h.len hP h).mono (fun _ _ ⟨_,h1,h2,h3,h4⟩=>⟨_,h1,h2,h3,h4⟩)
theorem Bu.ptr{w:World}{B:Nat}{v:Value}{t:Bo}(h:Bu w B v t):∃k,v=.pointer (some ⟨k,0,none⟩):=by
 cases t with
 |one n st=>obtain⟨k,h1,_⟩:=h;exact⟨k,h1⟩
 |list t st=>obtain⟨k,u,h1,_⟩:=h;exact⟨k,h1⟩
theorem PQ.stay{T:TypeId}{B:Nat}{w X Y:World}{p b S G:Nat}{s:St}(h:PQ w X p b S G s)(k:Ag b X Y)(hT:T≠155:=by decide):Ao T B X Y:=h.ps.stay k hT
theorem Ao.set3{T:TypeId}{B F:Nat}{x y:World}(h:Ao T B x y)(hF:F<B)(i:Nat)(v:Value):Ao T B x (y.setCell ⟨F,i,none⟩ v):=h.trans (Ao.set hF i v)
theorem pM(w:World)(p b S G:Nat)(s:St)(hP:PP w p b S)(h:PS w b G s):
 Calls prog 192 #[.pointer (some ⟨p,0,none⟩)] w fun e w'=>∃u,e=.returned (.agg (LX (Dj s).1 u))/\Bu w' w.heap.size u (Dj s).1.ty/\PQ w w' p b S G (Dj s).2:=by
 have Q0:=Aa (hP.pq h);have hlt:=h.lt;have hgl:=h.glt;have hpl:=hP.lt;have c:=hP.c0;have HC:=Aa (fun W (hW:PQ w W p b S G s)=>Nu W p b S G s hW.pp hW.ps);have HQ:=Aa (show Dj s=(⟨nm s,(EI 801 (BL 802 (Iu s)).2 ⟨#[]⟩ ⟨#[]⟩).1.1,(EI 801 (BL 802 (Iu s)).2 ⟨#[]⟩ ⟨#[]⟩).1.2,(Ed (nmT s)).1.1,(Ed (nmT s)).1.2,(BL 802 (Iu s)).1⟩,(EI 801 (BL 802 (Iu s)).2 ⟨#[]⟩ ⟨#[]⟩).2)from rfl);unfold Iu at HQ;clear h hP;generalize Dj s=FF at*;generalize nm s=n at*;generalize nmT s=s1 at*;have HT:=Aa (fun W (hW:PQ w W p b S G s1)=>Ev W b G s1 7 hW.ps);have HA:=Aa (fun W (hW:PQ w W p b S G (tl s1))=>pK W p b S G (tl s1) hW.pp hW.ps);have HN8:=Aa (fun W (hW:PQ w W p b S G (GM (tl s1)).2)=>Cc W b G _ 8 hW.ps);have HFA:=Aa (Ed.eq_1 s1);have HN9:=Aa (fun W (hW:PQ w W p b S G (Ed s1).2)=>Cc W b G _ 9 hW.ps);have HTY:=Aa (fun W (hW:PQ w W p b S G (mustT (Ed s1).2 (Ad (Ed s1).2 9)))=>pS W p b S G _ hW.pp hW.ps);generalize (Ay (Ed s1).2 9).k=k9 at*;generalize (Ay (Ed s1).2 9).n=n9 at*;generalize (Ay (Ed s1).2 9).s=y9 at*;generalize mustT (Ed s1).2 (Ad (Ed s1).2 9)=s5 at*;generalize BL 802 s5=tt at*;obtain⟨ty,s6⟩:=tt;simp only[]at HTY HQ;generalize Ed s1=fa at*;obtain⟨⟨fx,fy⟩,s4⟩:=fa;simp only[]at HN9 HQ;generalize GM (tl s1)=pa at*;obtain⟨⟨px,py⟩,s3⟩:=pa;simp only[]at HN8 HFA HA;go_enter func192,ntmps192;go_wp2_with fail;refine(HC.o _ (Q0.o.al _)).mono ?_;rintro _ w1 ⟨rfl,h1,k1⟩;have Q1:=Aa ((Q0.o.al _).call h1 k1);have HZ:=Aa (k1.at (tS w _) (by omega));have hl1:=Ab HZ.o;have c1:=Q1.o.pp.c0;have hp1:=Q1.o.pp.lt;have hb1:=h1.lt;clear h1 k1 HC;go_wp2_with fail;refine(HT.o _ (Q1.o.al _)).mono ?_;rintro _ w2 ⟨rfl,h2,k2⟩;have q2:=(Q1.o.al _).call h2 k2;have Q2:=Aa q2;have hN2:=k2.at (tS w1 (.cells #[.string n,.string ⟨#[]⟩,.string ⟨#[]⟩,.string ⟨#[]⟩,.string ⟨#[]⟩,.pointer none] 248)) (by omega);have HN2:=Aa hN2;have HR2:=Aa (k2.at ((AK w1 _ _ hl1).trans HZ.o) (by omega));have hlN:=Ab hN2;have c2:=q2.pp.c0;have hp2:=q2.pp.lt;have hb2:=h2.lt;clear h2 k2 q2 hN2 HT HZ Q1 c1
 go_upto_if 12 with fail
 go_cut [] (fun wc=>PQ w wc p b S G s4/\wc.heap[w.heap.size]?=some (.cells #[.string ⟨#[]⟩,.string ⟨#[]⟩,.string ⟨#[]⟩,.string ⟨#[]⟩,.string ⟨#[]⟩,.pointer none] 248 (0,0))/\wc.heap[w1.heap.size]?=some (.cells #[.string n,.string ⟨#[]⟩,.string ⟨#[]⟩,.string fx,.string fy,.pointer none] 248 (0,0)))
 case first=>
  cases e7:Ad s1 7
  ·rw[e7]at HFA Q2
   obtain⟨⟨e1,e2⟩,e3⟩:((fx=⟨#[]⟩/\fy=⟨#[]⟩)/\s4=s1):=by have:=HFA.o;simpa using this
   subst e1 e2 e3;go_wp2_with fail;go_meet;exact⟨Q2.o,HR2.o,HN2.o⟩
  ·rw[e7]at HFA Q2
   obtain⟨⟨e1,e2⟩,e3⟩:((fx=px/\fy=py)/\s4=mustT s3 (Ad s3 8)):=by have:=HFA.o;simpa using this
   subst e1 e2 e3;go_wp2_with fail;refine(HA.o _ Q2.o).mono ?_;rintro _ w3 ⟨rfl,q3⟩;have hN3:=q3.kp.at HN2.o (by omega);have HN3:=Aa hN3;have HR3:=Aa (q3.kp.at HR2.o (by omega));have Q3:=Aa (Q2.o.tr q3);have cN:=Ac hN3;have fN:=Am hN3;have xB:=Ab hN3;have c3:=q3.pp.c0;have hp3:=q3.pp.lt;have hb3:=q3.ps.lt;have hpb:p<w1.heap.size:=by omega
   clear hN3 q3;go_wp2_with fail;refine(HN8.o _ ?_).mono ?_
   ·repeat' with_reducible first|exact Q3.o|refine PQ.st ?_ _ (Nat.le_of_lt hl1) _
   rintro _ w4 ⟨rfl,h4,k4⟩;go_wp2_with fail;go_meet;refine⟨PQ.call (s:=s3) ?_ h4 k4,k4.at ((tX _ _ _ _ (show w.heap.size≠w1.heap.size by omega)).trans ((tX _ _ _ _ (show w.heap.size≠w1.heap.size by omega)).trans HR3.o)) (by omega),k4.at (AI (AI HN3.o 3 _) 4 _) (by omega)⟩;repeat' with_reducible first|exact Q3.o|refine PQ.st ?_ _ (Nat.le_of_lt hl1) _
 case rest=>
  obtain⟨q5,hR,hN⟩:=hcut;have Q5:=Aa q5;have HR:=Aa hR;have HN:=Aa hN;have c5:=q5.pp.c0;have hp5:=q5.pp.lt;have hb5:=q5.ps.lt;clear q5 hR hN HFA HA HN8 HN2 HR2 Q2 c2;go_wp2_with fail;refine(HN9.o _ Q5.o).mono ?_;rintro _ w6 ⟨rfl,h6,k6⟩;have q6:=Q5.o.call h6 k6;have Q6:=Aa q6;have HR6:=Aa (k6.at HR.o (by omega));have HN6:=Aa (k6.at HN.o (by omega));have c6:=q6.pp.c0;have hp6:=q6.pp.lt;have hl6:=Ab HN6.o;clear q6 h6 k6 Q5 HR HN HN9 c5;go_wp2_with fail;refine(HTY.o _ Q6.o).mono ?_;rintro _ w7 ⟨u,rfl,ht,h7,k7⟩;obtain⟨ku,rfl⟩:=ht.ptr;have Q7:=Aa (Q6.o.call h7 k7);have HR7:=Aa (k7.at HR6.o (by omega));have hN7:=k7.at HN6.o (by omega);have HN7:=Aa hN7;have HTA:=Aa ht;have cN:=Ac hN7;have fN:=Am hN7;have yK:=Ab hN7;have hln6:=h7.len;clear h7 k7 hN7 ht HTY Q6 HR6 HN6 c6;go_wp2_with fail;go_loopg [] (ln s6) (fun k wr=>∃(a h:vD) (s':St) (f:Nat),ln s'<=k/\ln s'<=f/\PQ w wr p b S G s'/\wr.heap[w1.heap.size]?=some (.cells #[.string n,.string a,.string h,.string fx,.string fy,.pointer (some ⟨ku,0,none⟩)] 248 (0,0))/\wr.heap[w.heap.size]?=some (.cells #[.string ⟨#[]⟩,.string ⟨#[]⟩,.string ⟨#[]⟩,.string ⟨#[]⟩,.string ⟨#[]⟩,.pointer none] 248 (0,0))/\Bu wr w6.heap.size (.pointer (some ⟨ku,0,none⟩)) ty/\EI 801 s6 ⟨#[]⟩ ⟨#[]⟩=EI f s' a h)
  case atStart=>exact⟨_,_,s6,801,tL _,hln6,Q7.o.st _ (Nat.le_of_lt hl1) _,AI HN7.o 5 _,(tX _ _ _ _ (show w.heap.size≠w1.heap.size by omega)).trans HR7.o,HTA.o.stays (Ao.set hl6 5 _),rfl⟩
  case round=>
   obtain⟨a,h,s',f,hlk,hlf,q,hN,hR,ht,hm⟩:=hrel;have QR:=Aa q;have HN:=Aa hN;have HR:=Aa hR;have HTR:=Aa ht;have HM:=Aa hm;have c8:=q.pp.c0;have hp8:=q.pp.lt;have hb8:=q.ps.lt;have hTK:=Aa (Ev wr b G s' 11 q.ps);clear q hN hR ht hm Q7 HR7 HN7 HTA cN fN;cases e11:Ad s' 11
   ·rw[e11]at hTK
    have HE:=Aa (show FF=(⟨n,a,h,fx,fy,ty⟩,s')from by
     rw[HQ.o,HM.o];cases f with
     |zero=>rfl
     |succ f=>rw[show EI (f+1) s' a h=((a,h),s')from by rw[EI,uB (by rw[e11];simp)]])
    clear e11 HM HQ;go_wp2_with fail;refine hTK.o.mono ?_;rintro _ w8 ⟨rfl,h8,k8⟩;have Q8:=Aa (show PQ w w8 p b S G s' from QR.o.call h8 k8);have hN8:=k8.at HN.o (by omega);have hR8:=k8.at HR.o (by omega);have cN:=Ac hN8;have cR:=Ac hR8;have fR:=Am hR8;have hlN8:=Ab hN8;have hlR8:=Ab hR8;have HT8:=Aa (HTR.o.stays (QR.o.stay k8));clear h8 k8 hN8 hR8;go_wp2_with fail;refine bodyPost_ret (v:=.agg #[.string n,.string a,.string h,.string fx,.string fy,.pointer (some ⟨ku,0,none⟩)]) (by simp[results,results192,go_sem, *]) rfl ⟨.pointer (some ⟨ku,0,none⟩),by rw[HE.o];rfl,?_,?_⟩
    ·rw[HE.o]
     refine(HT8.o.stays ?_).mono (show w.heap.size<=w6.heap.size by omega);repeat' with_reducible first|exact Ao.refl _ _ _|refine Ao.set3 ?_ (show w.heap.size<w6.heap.size by omega) _ _
    ·rw[HE.o]
     repeat' with_reducible first|exact Q8.o|refine PQ.st ?_ _ (tL _) _
   ·rw[e11]at hTK
    have hlt1:=EG s' 11 (by decide) e11;have hmk:=Vf a h (tl s');obtain⟨f',rfl⟩:∃f',f=f'+1:=⟨f-1,by omega⟩;have HE:=Aa (show EI 801 s6 ⟨#[]⟩ ⟨#[]⟩=EI f' (Ee a h (tl s')).2 (Ee a h (tl s')).1.1 (Ee a h (tl s')).1.2 from by rw[HM.o,EI,uC e11]);clear e11 HM;have HMK:=Aa (fun W (hW:PQ w W p b S G (tl s')) hN=>pO W p b S G w1.heap.size (tl s') n a h fx fy (.pointer (some ⟨ku,0,none⟩)) hW.pp hW.ps hN (by omega));go_wp2_with fail;refine hTK.o.mono ?_;rintro _ w8 ⟨rfl,h8,k8⟩;have Q8:=Aa (show PQ w w8 p b S G (tl s')from QR.o.call h8 k8);have HN8:=Aa (k8.at HN.o (by omega));have HR8:=Aa (k8.at HR.o (by omega));have HT8:=Aa (HTR.o.stays (QR.o.stay k8));have hlN8:=Ab HN8.o;clear h8 k8;go_wp2_with fail;refine(HMK.o _ Q8.o HN8.o).mono ?_;rintro _ w9 ⟨rfl,h9,hN9,k9⟩;go_wp2_with fail;go_roundg (ln (Ee a h (tl s')).2)
    case measure=>omega
    case rel=>
     obtain⟨cs,hcs⟩:=Q8.o.ps.ty;exact⟨_,_,_,f',tL _,by omega,Q8.o.two h9 k9 (Nat.le_of_lt hl1),hN9,(k9.block _ (Ab HR8.o) (by omega) (by omega)).trans HR8.o,HT8.o.stays (Ao.of_keep2 k9 hcs HN8.o (by decide) (by decide)),HE.o⟩
theorem Vj:∀(f:Nat) (s:St),ln (BL f s).2<=ln s
 |0,s=>tL _
 |f+1,s=>by
  rw[BL];split
  ·exact tQ (LN _ _) (tQ (Do _ _) (tQ (Vj f (tl s)) (BG s)))
  ·exact tQ (LN _ _) (AZ s)
theorem jJ(s:St):ln (GM s).2<=ln s:=by
 unfold GM;refine tQ (Do _ _) (tQ (Do _ _) ?_);unfold Fy;split
 ·exact AZ s
 ·split
  ·exact AZ s
  ·simp[ln]
theorem jK(s:St):ln (Ed s).2<=ln s:=by
 unfold Ed;split
 ·exact tQ (Do _ _) (tQ (jJ _) (BG s))
 ·exact tL _
theorem Vh:∀(f:Nat) (s:St) (a h:vD),ln (EI f s a h).2<=ln s
 |0,s,a,h=>tL _
 |f+1,s,a,h=>by
  rw[EI];split
  ·exact tQ (Vh f _ _ _) (tQ (Vf _ _ _) (BG s))
  ·exact tL _
theorem OE(s:St):ln (Dj s).2<=ln (nmT s):=by
 unfold Dj;exact tQ (Vh _ _ _ _) (tQ (Vj _ _) (by unfold Iu;exact tQ (Do _ _) (jK _)))
theorem KQ(s:St)(h:Ad s 1=true):ln (nmT s)<ln s:=by
 unfold nmT;rw[uC h];exact EG s 1 (by decide) h
def CY:Nat->St->List Al×St
 |0,s=>([],s)
 |f+1,s=>if Ad s 1=true then((Dj s).1::(CY f (Dj s).2).1,(CY f (Dj s).2).2)else([],s)
def CF(s:St):List Al×St:=
 ((Dj (mustT s (Ad s 14))).1::(CY 801 (Dj (mustT s (Ad s 14))).2).1,mustT (CY 801 (Dj (mustT s (Ad s 14))).2).2 (Ad (CY 801 (Dj (mustT s (Ad s 14))).2).2 15))
theorem mV(f:Nat)(s:St)(h:Ad s 1=false):CY f s=([],s):=by
 cases f with
 |zero=>rfl
 |succ f=>rw[CY,uB (by rw[h];simp)]
theorem Vc:∀(f:Nat) (s:St),ln (CY f s).2<=ln s
 |0,s=>tL _
 |f+1,s=>by
  rw[CY];split
  ·exact tQ (Vc f _) (tQ (OE s) (AZ s))
  ·exact tL _
theorem Vb(s:St):ln (CF s).2<=ln s:=by
 unfold CF;exact tQ (Do _ _) (tQ (Vc _ _) (tQ (OE _) (tQ (AZ _) (Do _ _))))
def Ns(L:List (Al×Value)):List Value:=L.flatMap fun x=>(LX x.1 x.2).toList
theorem nS(L:List (Al×Value))(x:Al×Value):Ns (L++[x])=Ns L++(LX x.1 x.2).toList:=by simp[Ns]
def Dq(w:World)(B:Nat)(v:Value)(l:List Al):Prop:=∃L:List (Al×Value),L.map Prod.fst=l/\w.ownsRow B 248 6 v L.length (Ns L)/\∀x∈L,Bu w B x.2 x.1.ty
theorem Cz{w w':World}{base size n:Nat}{e:TypeId}{v:Value}{xs:List Value}(h:w.ownsRow base e size v n xs)(hs:Ao e base w w'):w'.ownsRow base e size v n xs:=by
 refine⟨h.1,?_⟩;rcases h.2 with x|⟨g,cap,cur,hv,hg,hh,r⟩
 ·exact Or.inl x
 ·exact Or.inr ⟨g,cap,cur,hv,hg,hs g _ _ hg hh,r⟩
theorem Dq.stays{w w':World}{B:Nat}{v:Value}{l:List Al}(h:Dq w B v l)(h1:Ao 248 B w w')(h2:Ao 269 B w w'):Dq w' B v l:=by
 obtain⟨L,e,ho,ht⟩:=h;exact⟨L,e,Cz ho h1,fun x hx=>(ht x hx).stays h2⟩
theorem Dq.mono{w:World}{B C:Nat}{v:Value}{l:List Al}(h:Dq w B v l)(hc:C<=B):Dq w C v l:=by
 obtain⟨L,e,ho,ht⟩:=h;exact⟨L,e,OZ ho hc,fun x hx=>(ht x hx).mono hc⟩
theorem PS.grown{w w':World}{b G B:Nat}{s:St}{row:Option Nat}(h:PS w b G s)(hg:w.grownBy w' row)(hr:∀k,row=some k->B<=k)(hb:b<B)(hG:G<B):PS w' b G s:=
 h.move (hg.block b h.lt (fun e=>by have:=hr b e.symm;omega)) (hg.block G h.glt (fun e=>by have:=hr G e.symm;omega)) hg.size
theorem PP.grown{w w':World}{p b S B:Nat}{row:Option Nat}(h:PP w p b S)(hg:w.grownBy w' row)(hr:∀k,row=some k->B<=k)(hp:p<B):PP w' p b S:=by
 unfold PP at*;rw[hg.block p (Ab h) (fun e=>by have:=hr p e.symm;omega)];exact h
theorem Ao.grown{T:TypeId}{B:Nat}{w w':World}{row:Option Nat}{base size n:Nat}{e:TypeId}{v:Value}{xs:List Value}(hg:w.grownBy w' row)(ho:w.ownsRow base e size v n xs)(hr:row=v.ownBlock)(hT:e≠T):Ao T B w w':=fun k c fr _ a=>by
 rw[hg.block k (Ab a) (fun x=>by
  rw[hr]at x;rcases ho.2 with⟨y,_⟩|⟨g,cap,cur,hv,hg,hh,r⟩
  ·rw[y]at x;cases x
  ·rw[hv]at x;cases x;rw[hh]at a;cases a;exact hT rfl)]
 exact a
theorem info248:(prog.info? 248).map (fun i=>(i.zero,i.size,i.bytes))=some (some (.agg #[.string ⟨#[]⟩,.string ⟨#[]⟩,.string ⟨#[]⟩,.string ⟨#[]⟩,.string ⟨#[]⟩,.pointer none]),6,88):=by kernel_rfl
theorem OY{a b c d e f:Value}(h1:a.oneCell'=true)(h2:b.oneCell'=true)(h3:c.oneCell'=true)(h4:d.oneCell'=true)(h5:e.oneCell'=true)(h6:f.oneCell'=true):∀u∈[a,b,c,d,e,f],u.oneCell'=true:=by
 intro u hu;simp at hu;rcases hu with rfl|rfl|rfl|rfl|rfl|rfl<;>assumption
theorem PQ.gr{w X Y:World}{p b S G:Nat}{s:St}(h:PQ w X p b S G s){row:Option Nat}(hg:X.grownBy Y row)(hr:∀k,row=some k->w.heap.size<=k):PQ w Y p b S G s:=⟨⟨h.ps.grown hg hr h.hb h.hg,h.kp.grown hg hr,h.hb,h.hg⟩,h.pp.grown hg hr h.hp,h.hp⟩
theorem Xk(w:World)(p b S G:Nat)(s:St)(hP:PP w p b S)(h:PS w b G s):
 Calls prog 144 #[.pointer (some ⟨p,0,none⟩)] w fun e w'=>∃v,e=.returned v/\Dq w' w.heap.size v (CF s).1/\(CF s).1.length<=802/\PQ w w' p b S G (CF s).2:=by
 obtain⟨i0,hi,hz0,hz1,hz2⟩:=info_parts info248;have Q0:=Aa (hP.pq h);have hlt:=h.lt;have hpl:=hP.lt;have c:=hP.c0;have HQ:=Aa (show CF s=((Dj (mustT s (Ad s 14))).1::(CY 801 (Dj (mustT s (Ad s 14))).2).1,mustT (CY 801 (Dj (mustT s (Ad s 14))).2).2 (Ad (CY 801 (Dj (mustT s (Ad s 14))).2).2 15))from rfl);generalize CF s=FF at*;have HN:=Aa (fun W (hW:PQ w W p b S G s)=>Cc W b G s 14 hW.ps);have hl0:=tQ (Do s (Ad s 14)) h.len;clear h hP;generalize (Ay s 14).k=nk at*;generalize (Ay s 14).n=nn at*;generalize (Ay s 14).s=ny at*;generalize mustT s (Ad s 14)=s1 at*;have HF:=Aa (fun W s' (hW:PQ w W p b S G s')=>pM W p b S G s' hW.pp hW.ps);have HF1:=Aa (HF.o · s1);have hl2:=tQ (OE s1) (tQ (AZ s1) hl0);generalize Dj s1=f0 at*;obtain⟨⟨fn,fa,fh,fx,fs,ft⟩,s2⟩:=f0;simp only[LX]at HF1 hl2;go_enter func144,ntmps144;go_wp2_with fail;refine(HN.o _ Q0.o).mono ?_;rintro _ w1 ⟨rfl,h1,k1⟩;have Q1:=Aa (Q0.o.call h1 k1);clear h1 k1 HN;go_wp2_with fail;refine(HF1.o _ Q1.o).mono ?_;rintro _ w2 ⟨u,rfl,ht,q2⟩;obtain⟨ku,rfl⟩:=ht.ptr;have HT2:=Aa (ht.mono Q1.o.kp.size);have Q2:=Aa (Q1.o.tr q2);clear ht q2 HF1 Q1;go_wp2_with fail;go_loopg [3] (ln s2) (fun k v wr=>∃(L:List (Al×Value)) (s':St) (f:Nat),ln s'<=k/\ln s'<=f/\PQ w wr p b S G s'/\wr.ownsRow w.heap.size 248 6 v L.length (Ns L)/\(∀x∈L,Bu wr w.heap.size x.2 x.1.ty)/\L.length+ln s'<=802/\((⟨fn,fa,fh,fx,fs,ft⟩:Al)::(CY 801 s2).1,(CY 801 s2).2)=(L.map Prod.fst++(CY f s').1,(CY f s').2))
 case atStart=>
  refine⟨[(⟨fn,fa,fh,fx,fs,ft⟩,.pointer (some ⟨ku,0,none⟩))],s2,801,tL _,hl2,Q2.o.al _,?_,?_,by simp;omega,rfl⟩
  ·exact⟨rfl,Or.inr ⟨w2.heap.size,1,_,rfl,Q2.o.kp.size,tS w2 _,tL _,by decide,rfl,rfl⟩⟩
  ·intro x hx;rw[List.mem_singleton]at hx;subst hx;exact HT2.o.stays (Ao.alloc _)
 case round=>
  obtain⟨L,s',f,hlk,hlf,q,hown,ht,hLn,hrel⟩:=hrel;obtain⟨aL,cL,rfl⟩:=An hown;have HM:=Aa hrel;have QR:=Aa q;have HO:=Aa hown;have HT:=Aa ht;have c4:=q.pp.c0;have hp4:=q.pp.lt;have hSE:=Aa (GS wr b G s' 1 q.ps);clear q hown ht hrel Q2 HT2;cases hx:Ad s' 1
  ·rw[hx]at hSE
   have HE:=Aa (show FF=(L.map Prod.fst,mustT s' (Ad s' 15))from by
    have:=HM.o;rw[mV f s' hx]at this;simp only[Prod.mk.injEq,List.append_nil]at this;rw[HQ.o];rw[this.1,this.2])
   have HN:=Aa (fun W (hW:PQ w W p b S G s')=>Cc W b G s' 15 hW.ps);generalize (Ay s' 15).k=mk at*;generalize (Ay s' 15).n=mn at*;generalize (Ay s' 15).s=my at*;clear hx HM HQ HF;go_wp2_with fail;refine hSE.o.mono ?_;rintro _ w5 ⟨rfl,b5⟩;have Q5:=Aa (QR.o.be b5);have c5:=Q5.o.pp.c0;have hp5:=Q5.o.pp.lt;have HO5:=Aa (AT HO.o b5);have HT5:=Aa (fun x hx=>(HT.o x hx).stays (Ao.of_below b5));clear b5;go_wp2_with fail;refine(HN.o _ Q5.o).mono ?_;rintro _ w6 ⟨rfl,h6,k6⟩;go_wp2_with fail;go_ret;exact⟨_,rfl,by rw[HE.o];exact⟨L,rfl,Cz HO5.o (Q5.o.stay k6),fun x hx=>(HT5.o x hx).stays (Q5.o.stay k6)⟩,by rw[HE.o];simp;omega,by rw[HE.o];exact Q5.o.call h6 k6⟩
  ·rw[hx]at hSE
   have hlt1:=KQ s' hx;have hlf1:=OE s';obtain⟨f',rfl⟩:∃f',f=f'+1:=⟨f-1,by omega⟩;have HE:=Aa (show((⟨fn,fa,fh,fx,fs,ft⟩:Al)::(CY 801 s2).1,(CY 801 s2).2)=(L.map Prod.fst++((Dj s').1::(CY f' (Dj s').2).1),(CY f' (Dj s').2).2)from by
    rw[HM.o,CY,uC hx])
   have HF2:=Aa (HF.o · s');clear hx HM HF;generalize Dj s'=f1 at*;obtain⟨⟨gn,ga,gh,gx,gs,gt⟩,s3⟩:=f1;simp only[LX]at HF2 HE hlf1;go_wp2_with fail;refine hSE.o.mono ?_;rintro _ w5 ⟨rfl,b5⟩;have Q5:=Aa (QR.o.be b5);have HO5:=Aa (AT HO.o b5);have HT5:=Aa (fun x hx=>(HT.o x hx).stays (Ao.of_below b5));clear b5;go_wp2_with fail;refine(HF2.o _ Q5.o).mono ?_;rintro _ w6 ⟨u,rfl,t6,q6⟩;obtain⟨kv,rfl⟩:=t6.ptr;have hO6:=Cz HO5.o (Q5.o.stay q6.kp);have HT6:=Aa (fun x hx=>(HT5.o x hx).stays (Q5.o.stay q6.kp));have HU6:=Aa (t6.mono Q5.o.kp.size);have Q6:=Aa (Q5.o.tr q6);have z6:=Q6.o.kp.size;have HLO:=Aa (fun k hk=>(hO6.lt k hk).1);clear q6 t6 HO5 HT5 Q5;go_wp2_with (at_builtin;refine wpList_append_own _ rfl _ _ 198 rfl w.heap.size 248 i0 _ 6 88 underlying198 hi hz0 hz1 hz2 rfl (by decide) _ _ _ rfl (hO6.alloc _) ⟨w6.heap.size,0,none⟩ 1 1 [.string gn,.string ga,.string gh,.string gx,.string gs,.pointer (some ⟨kv,0,none⟩)] rfl rfl (Cs _ _ _ _ (by simp)) (OY rfl rfl rfl rfl rfl rfl) (by unfold maxLen;omega) (by omega) (by simp;omega) ?_;intro v' w7 hown' hgrow _);have Q7:=Aa ((Q6.o.al _).gr hgrow HLO.o);have HS7:=Aa (show Ao 269 w.heap.size w6 w7 from(Ao.alloc _).trans (Ao.grown hgrow (hO6.alloc _) rfl (by decide)));have HO7:=Aa hown';clear hown' hgrow hO6;go_roundg (ln s3)
   case measure=>omega
   case rel=>
    refine⟨L++[(⟨gn,ga,gh,gx,gs,gt⟩,.pointer (some ⟨kv,0,none⟩))],s3,f',tL _,by omega,Q7.o,by rw[nS,uE];exact HO7.o,fun x hx=>?_,by simp;omega,by rw[HE.o];simp⟩;rcases uZ.1 hx with hx|hx
    ·exact(HT6.o x hx).stays HS7.o
    ·rw[List.mem_singleton]at hx;subst hx;exact HU6.o.stays HS7.o
end Go.Proofs.YtadneapobijejaaGreatDoor
