import Derived.Test.YtgbloieahmkcjaaGreatC41
import Derived.Test.YtgbloieahmkcjaaGreatC37
namespace Go.Proofs.YtgbloieahmkcjaaGreat
set_option maxHeartbeats 20000000
set_option maxRecDepth 100000
open Go.RowKit Tryz
theorem B4(k:Int)(w:World):Calls prog 11 #[.int .i64 k] w fun e w'=>e=.returned (.int .i64 k)/\w'=w:=by
 go_enter func11,ntmps11;go_wp2_with fail;go_ret;exact⟨rfl,rfl⟩
theorem G1(n:Nat):(dM n).size=8:=by
 unfold dM;rw[ByteArray.size_append];rfl
theorem vu(x:Ls)(ys:List bo)(LK vid:Ls):(iO x ys LK vid).1.length<=200:=by
 unfold iO;split
 ·rename_i hk
  have hst:=(BY hk).2;unfold kO lT at hst;simp only[Li,Lc]at hst;split
  ·simp
  ·exact KP (List.length_filterMap_le _ _) (by rw[Ll];exact hst.1)
 ·simp
theorem Ep{Lx:List aH}{id:Ls}{Lu:List Ls}{y r:bo}(h:lO Lx id Lu y=some r):r.2.2.length<=y.2.2.length:=by
 unfold lO at h;split at h
 ·cases h
 ·split at h
  ·cases h
  ·cases h;exact List.length_filter_le _ _
theorem ws(x:Ls)(ys:List bo)(LK vid:Ls)(C:Nat)(hc:∀y∈ys,y.2.2.length<=C):∀r∈(iO x ys LK vid).1,r.2.2.length<=C:=by
 unfold iO;split
 ·split
  ·intro r hr;simp at hr
  ·intro r hr
   simp only[List.mem_filterMap,List.mem_map]at hr;obtain⟨z,⟨y,hy,e⟩,rfl⟩:=hr;exact KP (Ep e) (hc y hy)
 ·intro r hr;simp at hr
def mC(k:Nat):bo:=(⟨#[]⟩,dM k,[])
theorem DU{w:World}{B n k:Nat}{v:Value}(h:w.ownsRow B 37 3 v n (jH (eR k) n)):eM w v (List.replicate n (mC k)):=by
 rcases h.2 with⟨hv,h0⟩|⟨g,cap,cur,hv,hg,hh,hr⟩
 ·subst h0;exact⟨none,0,hv,KK _,.inl rfl⟩
 ·subst hv
  refine⟨some ⟨g,0,none⟩,cap,by rw[List.length_replicate],by rw[List.length_replicate];exact hr.1,.inr ⟨g,0,rfl,fun j r hj=>?_⟩⟩;have hjl:j<n:=by have:=(KO.1 hj).1;simpa using this
  have er:r=mC k:=by rw[List.getElem?_replicate,K9 hjl]at hj;exact(KY hj).symm
  subst er;have q:∀i,i<3->w.cell? ⟨g,0+j*3+i,none⟩=(eR k)[i]?:=fun i hi=>by
   rw[Nat.zero_add,h.cellAt _ (by omega)];exact qW (eR k) n j i hjl hi
  exact⟨q 0 (by omega),q 1 (by omega),.slice none 0 0,q 2 (by omega),none,0,rfl,KK _,.inl rfl⟩
theorem Mk.rows{w:World}{A:Nat->Prop}{n m c c' g k:Nat}(h:kw w A k (some ⟨g,0,none⟩,n,c))(hm:m<=n)(hc:m<=c'):eM w (.slice (some ⟨g,0,none⟩) m c') (List.replicate m (mC k)):=by
 refine⟨some ⟨g,0,none⟩,c',by rw[List.length_replicate],by rw[List.length_replicate];exact hc,?_⟩;by_cases h0:m=0
 ·subst h0;exact .inl rfl
 ·rcases h.2 with q|⟨g',cs,e,_,hb,hk⟩
  ·simp at q;omega
  ·cases e
   refine .inr ⟨g,0,rfl,fun j r hj=>?_⟩;have hjl:j<m:=by have:=(KO.1 hj).1;simpa using this
   have er:r=mC k:=by rw[List.getElem?_replicate,K9 hjl]at hj;exact(KY hj).symm
   subst er;have q:=hk j (by simp;omega);have d:=ae hb;exact⟨by rw[Nat.zero_add,d];exact q 0 (by simp),by rw[Nat.zero_add,d];exact q 1 (by simp),.slice none 0 0,by rw[Nat.zero_add,d];exact q 2 (by simp),none,0,rfl,KK _,.inl rfl⟩
theorem jJ.next{w w':World}{B0 b C C':Nat}{F F':Nat->Value}{L L':Nat->List SL}{PL RL:List (SL×List OX)}{s3 sO sM:SL}{N:List SL}{xs zs:List OX}(H:jJ w B0 b F L PL RL)(hf:Fm B0 (fun _=>False) w w')(hb:Bk w' B0 b F' L')(e0:L' 0=L 0)(e1:L' 1=L 1)(e3:L' 3=L 3++[s3])(e4:L' 4=L 4++N)(e5:L' 5=L 5++[sO])(e6:L' 6=L 6++[sM])
 (h3:kw w' (fun u=>w.heap.size<=u/\u<C) (L 3).length s3) (h4:∀k s,N[k]?=some s->ji w' (fun u=>w.heap.size<=u/\u<C) ((L 4).length+k) s) (hO:dw w' C (sv sO) xs) (hM:dw w' C' (sv sM) zs) (hw:w.heap.size<=C) (hB:B0<=w.heap.size) (hC':B0<=C') (hxz:xs.map Prod.fst=zs.map Prod.fst) (hn:xs.length<=1000) (hc:∀x∈xs,x.1.2.2.length<=1000000):
 jJ w' B0 b F' L' (PL++[(sO,xs)]) (RL++[(sM,zs)]):=by
 have hA:∀g,g<w.heap.size->(∀p∈PL,¬ez (sv p.1) p.2 g)->∀p∈PL++[(sO,xs)],¬ez (sv p.1) p.2 g:=fun g hg h p hp e=>by
  rcases List.mem_append.1 hp with q|q
  ·exact h p q e
  ·simp at q;subst q;have:=(hO.lt g e).1;omega
 have hN:∀g,(w.heap.size<=g/\g<C)->∀p∈PL++[(sO,xs)],¬ez (sv p.1) p.2 g:=fun g hg p hp e=>by
  rcases List.mem_append.1 hp with q|q
  ·have:=((H.pl p q).1.lt g e).2;omega
  ·simp at q;subst q;have:=(hO.lt g e).1;omega
 refine⟨hb,e0.trans H.e0,e1.trans H.e1,by rw[e5,H.e5,Lr];rfl,by rw[e6,H.e6,Lr];rfl,fun k s hk=>?_,fun k s hk=>?_,fun p hp=>?_,fun p hp=>?_,?_,?_⟩
 ·rw[e3]at hk
  by_cases hkl:k<(L 3).length
  ·rw[Lf hkl]at hk
   exact(H.m3 k s hk).fm (.inl rfl) hf (fun g _ hg hc=>⟨fun e=>e,hA g (ag hc) hg⟩)
  ·rw[Lg (by omega)]at hk
   have hk0:k=(L 3).length:=by have:=(KO.1 hk).1;simp at this;omega
   subst hk0;simp at hk;subst hk;exact h3.mono hN
 ·rw[e4]at hk
  by_cases hkl:k<(L 4).length
  ·rw[Lf hkl]at hk
   exact(H.m4 k s hk).fm (.inr rfl) hf (fun g _ hg hc=>⟨fun e=>e,hA g (ag hc) hg⟩)
  ·rw[Lg (by omega)]at hk
   have:=(h4 _ s hk).mono hN;rw[show(L 4).length+(k-(L 4).length)=k by omega]at this;exact this
 ·rcases List.mem_append.1 hp with q|q
  ·exact⟨(H.pl p q).1.fm hf (fun _ _ e=>e),(H.pl p q).2⟩
  ·simp at q;subst q;exact⟨hO.low (by omega),hn,hc⟩
 ·rcases List.mem_append.1 hp with q|q
  ·exact(H.rl p q).fm hf (fun _ _ e=>e)
  ·simp at q;subst q;exact hM.low hC'
 ·rw[Lr,Lr,H.eq];simp[hxz]
 ·rw[List.pairwise_append]
  refine⟨H.dj,List.pairwise_singleton _ _,fun p hp q hq g e1 e2=>?_⟩;simp at hq;subst hq;have:=((H.pl p hp).1.lt g e1).2;have:=(hO.lt g e2).1;omega
theorem I8{B:Nat}{w x y:World}{v:Value}{n:Nat}{xs:List Value}{e:TypeId}{z:Nat}(hb:Below B w x)(hg:x.grownBy y v.ownBlock)(ho:x.ownsRow B e z v n xs)(hB:B<=x.heap.size):Below B w y:=
 hb.trans ⟨hg.os,hg.tape,hg.output,hg.size,fun k hk=>hg.block k (by omega) (fun q=>by have:=i7 ho k q.symm;omega)⟩
theorem tX(n k:Nat):∀y∈List.replicate n (mC k),y.2.1.size<=2000000/\y.2.2.length<=900000/\∀c∈y.2.2,c.2.size<=2000000:=fun y hy=>by
 have e:=List.eq_of_mem_replicate hy;subst e;refine⟨?_,KU _,fun c hc=>by simp[mC]at hc⟩;show(dM k).size<=_;rw[G1];omega
theorem tU(w:World)(B0 b:Nat)(F:Nat->Value)(L:Nat->List SL)(PL RL:List (SL×List OX))(H:jJ w B0 b F L PL RL)(hB:B0<=w.heap.size)(x LK vid:Ls)(hx:x.size<=maxLen)(hr:LK.size<=2000000)(aY:Option Addr)(cY:Nat)(ys:List bo)(hY:∀W,Fm B0 (fun k=>w.heap.size<=k) w W->eM W (.slice aY ys.length cY) ys)(hyl:ys.length<=1000000)(hcl:∀y∈ys,y.2.1.size<=2000000/\y.2.2.length<=900000/\∀c∈y.2.2,c.2.size<=2000000)(h4:(L 4).length<=10000000)(h3:(L 3).length<=1000)(hpl:PL.length<=50):
 Calls prog 6 #[.pointer (some ⟨b,0,none⟩),.string x,.slice aY ys.length cY,.agg #[.string LK,.string vid]] w fun e w'=>e=.returned (.bool true)/\(∃F' L' PL' RL',jJ w' B0 b F' L' PL' RL'/\PL'.length=PL.length+1/\(L' 3).length=(L 3).length+1/\(L' 4).length=(L 4).length+ys.length)/\Fm B0 (fun _=>False) w w':=by
 obtain⟨iY,hiY,zY0,zY1,zY2⟩:=info_parts info37;obtain⟨iC,hiC,zC0,zC1,zC2⟩:=info_parts info34;obtain⟨iL,hiL,zL0,zL1,zL2⟩:=info_parts info23;have hlb:=ag H.bk.bl;have HH:=aa H;have HY:=aa hY;have HCL:=aa hcl;have hYa:eM (w.alloc (.cells #[.string LK,.string vid] 25)) (.slice aY ys.length cY) ys:=hY _ (Fm.of_below (bA (KL _ _) _) hB);have HLE:=aa (Et _ b aY cY ys hYa hyl (fun y hy=>by have:=(hcl y hy).2.1;omega));clear H hY hcl hYa;go_enter func6,ntmps6;go_wp2_with fail;refine HLE.o.mono ?_;rintro _ w1 ⟨hs,rfl,hsl,hL,hmk,b1⟩;have hba:=bA (KL w.heap.size w) (.cells #[.string LK,.string vid] 25);have hV:=fO b1 (KS w (.cells #[.string LK,.string vid] 25));have cV:=ae hV;have hlV:=ag hV;have hga:(w.alloc (.cells #[.string LK,.string vid] 25)).heap.size=w.heap.size+1:=by simp
 rw[hga]at hL hmk;have HB1:=aa (bT hba b1);have HV:=aa hV;have HL:=aa hL;have HMK:=aa hmk;have HSL:=aa hsl;have HPS:=aa (yb x w1 hx _ _ ys LK vid hr (hL.at hsl) hyl HCL.o);have Nq:w.heap.size+1<w1.heap.size:=by obtain⟨cs,q,_⟩:=hL.rows;exact ag q
 clear hba b1 hV hL hmk hsl HLE hga;go_wp2_with fail;refine HPS.o.mono ?_;rintro _ w2 ⟨vO,xs,rfl,hO,hxs,b2⟩;obtain⟨aO,cO,rfl⟩:=bc hO.own;have HO:=aa hO;have HXS:=aa hxs;have HB2:=aa b2;have HBB2:=aa (bT HB1.o b2);have hV2:=fO b2 HV.o;have cV:=ae hV2;have hlV:=ag hV2;have HV2:=aa hV2;have HRS:=aa (BG x LK vid aY cY ys w2 hx (HY.o _ (Fm.of_below HBB2.o hB)) hyl (fun y hy=>⟨by have:=(HCL.o y hy).2.1;omega,fun c hc=>by have:=(HCL.o y hy).2.2 c hc;unfold maxLen;omega⟩));clear hO hxs b2 hV2 HPS HV;go_wp2_with fail;refine HRS.o.mono ?_;rintro _ w3 ⟨vM,zs,rfl,hM,hzs,b3⟩;obtain⟨aM,cM,rfl⟩:=bc hM.own;have HM:=aa hM;have HZS:=aa hzs;have HB3:=aa b3;have HO3:=aa (HO.o.far (fun k _ h2=>b3.block k h2) b3.size);have HSA:=aa (sH _ _ _ _ w3 HO3.o.rows hM.rows (by rw[HXS.o];have:=vu x ys LK vid;omega) (fun r hr=>by rw[HXS.o]at hr;exact ws x ys LK vid 2000000 (fun y hy=>by have:=(HCL.o y hy).2.1;omega) r hr));rw[HXS.o,HZS.o,Le rfl]at HSA;clear hM hzs b3 HRS;generalize hSP:iO x ys LK vid=SP at*;go_wp2_with fail;refine HSA.o.mono ?_;rintro _ _ ⟨rfl,n4,rfl⟩;have Oj:Lt w3 (w3.drewN n4):=below_drewN (KL _ _) n4;generalize w3.drewN n4=w4 at*;have HB14:=aa (bT (bT HB2.o HB3.o) Oj);have HB4:=aa (bT HB1.o HB14.o);have HO4:=aa (HO3.o.far (fun k _ h2=>Oj.block k h2) Oj.size);have HM4:=aa (HM.o.far (fun k _ h2=>Oj.block k h2) Oj.size);have hV4:=fO (bT HB3.o Oj) HV2.o;have hszO:=HB14.o.size;have HBA:=aa (Jl w4 B0 b (w.heap.size+1) F L (HH.o.bk.below HB4.o) (by omega) ys hs (HL.o.below HB14.o) HSL.o (ao HB14.o HMK.o) aY cY (fun W hW=>HY.o W ((Fm.of_below HB4.o hB).trans (hW.mono (fun k hk=>by omega)))) hyl (fun y hy=>by have:=(HCL.o y hy).2.1;omega) h4 h3);have HV4:=aa hV4;clear Oj hV4 cV;go_wp2_with fail;refine HBA.o.mono ?_;rintro _ w5 ⟨rfl,F5,N,hNl,hbk5,hm5,hr5,hf5⟩;obtain⟨L5,hL5⟩:∃L5,L5=bn (bn L 4 (L 4++N)) 3 (L 3++[(some ⟨w.heap.size+1,0,none⟩,ys.length+1,ys.length+1)]):=⟨_,rfl⟩;rw[<-hL5]at hbk5;have HQL:=aa (show L5 0=L 0/\L5 1=L 1/\L5 3=L 3++[(some ⟨w.heap.size+1,0,none⟩,ys.length+1,ys.length+1)]/\L5 4=L 4++N/\L5 5=L 5/\L5 6=L 6 from by rw[hL5];exact⟨rfl,rfl,rfl,rfl,rfl,rfl⟩);clear hL5;have HBK5:=aa hbk5;have HM5:=aa hm5;have HR5:=aa hr5;have HF5:=aa hf5;have HNL:=aa hNl;have hgs:∀u,(u=w.heap.size+1\/u∈hs)->w.heap.size<u/\u<w1.heap.size:=fun u hu=>by
  rcases hu with e|e
  ·omega
  ·have:=HL.o.gt u e;omega
 have HGS:=aa hgs;have HO5:=aa (HO4.o.fm hf5 (fun g hg e=>by have:=(HO4.o.lt g hg).1;have:=hgs g e;omega));have HM5':=aa (HM4.o.fm hf5 (fun g hg e=>by have:=(HM4.o.lt g hg).1;have:=hgs g e;have:=HB2.o.size;omega));have HW5:=aa (Fm.cut (K':=fun _=>False) HB4.o hB hf5 (fun k hk=>by have:=hgs k hk;omega));have NC:=hf5.size;clear hbk5 hm5 hr5 hf5 hNl hgs HBA;go_wp2_with fail;obtain⟨k3,hk3⟩:∃k3,k3=(L 3).length:=⟨_,rfl⟩;rw[<-hk3]at HR5;have HK3:=aa hk3;obtain⟨csR,hbR,hcR⟩:∃cs,w5.heap[w.heap.size+1]?=some (.cells cs 37 (0,0))/\∀k,k<ys.length+1->∀j,j<3->cs[k*3+j]?=(eR k3)[j]?:=by
  rcases HR5.o.2 with q|⟨g',cs,e,_,q1,q2⟩
  ·simp at q
  ·cases e;exact⟨cs,q1,q2⟩
 have HBR:=aa hbR;have HCR:=aa hcR;have hlg:=ag hbR;clear hk3 hbR hcR;go_loopg [16,17] ys.length (fun mm v16 v17 wr=>∃i:Nat,v17=.int .i64 i/\i<=ys.length/\ys.length-i<=mm/\wr.ownsRow w5.heap.size 37 3 v16 i (jH (eR k3) i)/\Lt w5 wr)
 case atStart=>exact⟨0,rfl,KU _,KK _,K7 _ _ _ _,KL _ _⟩
 case round=>
  obtain⟨i,rfl,hil,hmm,LJ,hb⟩:=hrel;obtain⟨aT,cT,rfl⟩:=bc LJ;have HOW:=aa LJ;have HBW:=aa hb;have hbR:=fO hb HBR.o;have hlgr:=ag hbR;have MM:=hb.size;by_cases hlt:i<ys.length
  ·have d0:=(ae hbR (i*3)).trans (HCR.o i (by omega) 0 (by omega))
   have d1:=(ae hbR (i*3+1)).trans (HCR.o i (by omega) 1 (by omega));have d2:=(ae hbR (i*3+2)).trans (HCR.o i (by omega) 2 (by omega));simp at d0 d1 d2;clear hbR LJ hb;go_wp2_with fail;go_region_law (first|(refine step_append_lies _ (by rfl) _ _ _ (by rfl) w5.heap.size 37 iY _ 3 56 underlying23 hiY zY0 zY1 zY2 rfl (by decide) _ _ _ (by rfl) (bZ HOW.o (by repeat' with_reducible first|exact KL _ _|refine bA ?_ _|refine Below.drew ?_)) ⟨wr.heap.size,0,none⟩ 1 1 (eR k3) (by rfl) (by rfl) (de _ _ _ _ (by simp)) (tw k3) (by decide) (by unfold maxLen;omega) (by omega) (by simp;omega) (wr.heap.size+1) (by simp) ?_;intro g6 cap6 w6 Mt hgrow6 hat6 hg6));all_goals(try go_wp2_with fail)
   all_goals(
    go_roundg (ys.length-(i+1))
    case measure=>omega
    case rel=>
     refine⟨i+1,by go_num,by omega,KK _,by rw[wO];exact Mt,I8 (e:=37) (z:=3) (n:=i) (xs:=jH (eR k3) i) ?_ hgrow6 ?_ ?_⟩
     ·repeat' with_reducible first|exact HBW.o|refine bA ?_ _|refine Below.drew ?_
     ·exact bZ HOW.o (by repeat' with_reducible first|exact KL _ _|refine bA ?_ _|refine Below.drew ?_)
     ·simp;omega)
  ·have hie:i=ys.length:=by omega
   subst hie;clear LJ hb hbR;obtain⟨wo,rfl⟩:∃wo:World,wo=wr:=⟨_,rfl⟩;have hV5:=fO HBW.o ((HF5.o.typ _ _ _ _ HV4.o (.inr (.inr rfl)) (fun e=>by have:=HGS.o _ e;omega)).trans HV4.o);have cV:=ae hV5;have hlV:=ag hV5;have HV5:=aa hV5;have HPS:=aa (yb x wo hx _ _ (List.replicate ys.length (mC k3)) LK vid hr (by rw[List.length_replicate];exact(Mk.rows HR5.o (Nat.le_succ _) (Nat.le_succ _)).below HBW.o) (by rw[List.length_replicate];exact hyl) (tX _ _));rw[List.length_replicate]at HPS;clear hV5;go_wp2_with fail;refine HPS.o.mono ?_;rintro _ w7 ⟨vP,us,rfl,hP,hus,b7⟩;obtain⟨aP,cP,rfl⟩:=bc hP.own;have HP:=aa hP;have HUS:=aa hus;have HB7:=aa b7;have hV7:=fO b7 HV5.o;have cV:=ae hV7;have hlV:=ag hV7;have HRS:=aa (BG x LK vid aT cT (List.replicate ys.length (mC k3)) w7 hx (by rw[List.length_replicate];exact(DU HOW.o).below b7) (by rw[List.length_replicate];exact hyl) (fun y hy=>⟨by have:=(tX _ _ y hy).2.1;omega,fun c hc=>by have:=(tX _ _ y hy).2.2 c hc;unfold maxLen;omega⟩));rw[List.length_replicate]at HRS;clear hP hus b7 hV7 HPS;go_wp2_with fail;refine HRS.o.mono ?_;rintro _ w8 ⟨vQ,qs,rfl,hQ,hqs,b8⟩;obtain⟨aQ,cQ,rfl⟩:=bc hQ.own;have HB8:=aa b8;have HSA:=aa (sH _ _ _ _ w8 (HP.o.rows.below b8) hQ.rows (by rw[HUS.o];have:=vu x (List.replicate ys.length (mC k3)) LK vid;omega) (fun r hr=>by rw[HUS.o]at hr;exact ws x _ LK vid 2000000 (fun y hy=>by have:=(tX _ _ y hy).2.1;omega) r hr));rw[HUS.o,hqs,Le rfl]at HSA;clear hQ hqs b8 HRS;generalize hSQ:iO x (List.replicate ys.length (mC k3)) LK vid=SQ at*;go_wp2_with fail;refine HSA.o.mono ?_;rintro _ _ ⟨rfl,n9,rfl⟩;have hb9:=below_drewN (KL w8.heap.size w8) n9;generalize w8.drewN n9=w9 at*;have HB9:=aa (bT (bT (bT HBW.o HB7.o) HB8.o) hb9);clear hb9;have Oq:=aa (HBK5.o.below HB9.o);obtain⟨n5,hn5⟩:∃n5,n5=(L 5).length:=⟨_,rfl⟩;obtain⟨n6,hn6⟩:∃n6,n6=(L 6).length:=⟨_,rfl⟩;have hpr:PL.length=RL.length:=by have:=congrArg List.length HH.o.eq;simpa using this
   have hn5l:n5<=50:=by rw[hn5,HH.o.e5,Ll];exact hpl
   have hn6l:n6<=50:=by rw[hn6,HH.o.e6,Ll,<-hpr];exact hpl
   obtain⟨a5,c5,hF5, -⟩:=lR (Oq.o.o 5);obtain⟨a6,c6,hF6, -⟩:=lR (Oq.o.o 6);have HN5:=aa hn5;have HN6:=aa hn6;have hF5:F5 5=.slice a5 n5 c5:=by rw[hF5,hn5,HQL.o.2.2.2.2.1]
   have hF6:F5 6=.slice a6 n6 c6:=by rw[hF6,hn6,HQL.o.2.2.2.2.2]
   have hbl:w9.heap[b]?=some (.cells #[F5 0,F5 1,F5 2,F5 3,F5 4,.slice a5 n5 c5,.slice a6 n6 c6,F5 7,F5 8] 31 (0,0)):=by have:=Oq.o.bl;rw[hF5,hF6]at this;exact this
   have cb:=ae hbl;have hlb9:=ag hbl;have HBL9:=aa hbl;have HO15:=aa (show w9.ownsRow B0 23 1 (.slice a5 n5 c5) n5 ((L 5).map sv)from by have:=Oq.o.o 5;rw[hF5,HQL.o.2.2.2.2.1,<-hn5]at this;exact this);have hsw9:B0<=w9.heap.size:=by have:=HB9.o.size;omega
   clear hbl hn5 hn6 HSA hiY hiC cV;go_wp2_with fail;refine(B4 _ _).mono ?_;rintro _ w' ⟨rfl,hw'⟩;have hw':=hw'.symm;subst hw';go_wp2_with (at_builtin;first|(refine wpList_append_lies _ rfl _ _ 27 rfl B0 23 iL _ 1 24 underlying27 hiL zL0 zL1 zL2 rfl (by decide) _ _ _ rfl (HO15.o.alloc _) ⟨w9.heap.size,0,none⟩ 1 1 [.slice aO xs.length cO] rfl rfl (de _ _ _ _ (by simp)) (by intro u hu;simp at hu;rcases hu with rfl;rfl) (by decide) (by unfold maxLen;omega) (by omega) (by have:=hsw9;simp;omega) _ rfl ?_;intro g1 k1 x1 hn1 hg1 hw1 hl1;have hbl:x1.heap[b]?=some (.cells #[F5 0,F5 1,F5 2,F5 3,F5 4,.slice a5 n5 c5,.slice a6 n6 c6,F5 7,F5 8] 31 (0,0)):=(hg1.block b (by have:=hlb9;simp;omega) (fun e=>Oq.o.ne 5 (by rw[hF5];exact e.symm))).trans (fO (bA (KL _ _) _) HBL9.o);have cb1:=ae hbl;have fb1:=ar hbl;have hlb1:=ag hbl;have HG1:=aa hg1;have HN1:=aa hn1;have HW1:=aa hw1;have HA1:=aa (show Bk (x1.setCell ⟨b,5,none⟩ (.slice (some ⟨g1,0,none⟩) (n5+1) k1)) B0 b (bn F5 5 (.slice (some ⟨g1,0,none⟩) (n5+1) k1)) (bn L5 5 (L5 5++[(aO,xs.length,cO)]))from(Oq.o.below (bA (KL _ _) _)).grow (by simp) (by rw[hF5];exact hg1) (by rw[Lb,HQL.o.2.2.2.2.1,<-HN5.o,Lr];exact hn1) rfl (hw1.imp (fun e=>by rw[hF5];exact e) (fun e=>Nat.le_of_eq e.symm)));have HFA:=aa (show Fm B0 (fun _=>False) w9 (x1.setCell ⟨b,5,none⟩ (.slice (some ⟨g1,0,none⟩) (n5+1) k1))from(Fm.of_below (bA (KL _ _) _) hsw9).trans ((Oq.o.below (bA (KL _ _) _)).grow_fm (by simp;omega) (by rw[hF5];exact hg1)));have HO16:=aa (show(x1.setCell ⟨b,5,none⟩ (.slice (some ⟨g1,0,none⟩) (n5+1) k1)).ownsRow B0 23 1 (.slice a6 n6 c6) n6 ((L 6).map sv)from(by have:=HA1.o.o 6;simp only[bn]at this;rw[K8 (by decide),K8 (by decide),hF6,HQL.o.2.2.2.2.2,<-HN6.o]at this;exact this));have hsx1:B0<=x1.heap.size:=(by have:=hg1.size;simp at this;omega);clear hbl hg1 hn1 hw1 hl1)|(refine wpList_append_lies _ rfl _ _ 27 rfl B0 23 iL _ 1 24 underlying27 hiL zL0 zL1 zL2 rfl (by decide) _ _ _ rfl (HO16.o.alloc _) ⟨x1.heap.size,0,none⟩ 1 1 [.slice aM zs.length cM] rfl rfl (de _ _ _ _ (by simp)) (by intro u hu;simp at hu;rcases hu with rfl;rfl) (by decide) (by unfold maxLen;omega) (by omega) (by have:=hsx1;simp;omega) _ rfl ?_;intro g2 k2 x2 hn2 hg2 hw2 hl2;have hbl:x2.heap[b]?=some (.cells #[F5 0,F5 1,F5 2,F5 3,F5 4,.slice (some ⟨g1,0,none⟩) (n5+1) k1,.slice a6 n6 c6,F5 7,F5 8] 31 (0,0)):=(hg2.block b (by have:=hlb1;simp;omega) (fun e=>HA1.o.ne 6 (by simp only[bn];rw[K8 (by decide),hF6];exact e.symm))).trans (fO (bA (KL _ _) _) (by have:=HA1.o.bl;simp only[bn]at this;simpa [hF6]using this));have cb2:=ae hbl;have fb2:=ar hbl;have hlb2:=ag hbl;have HG2:=aa hg2;have HN2:=aa hn2;have HW2:=aa hw2;clear hbl hg2 hn2 hw2 hl2));refine(B4 _ _).mono ?_;rintro _ w' ⟨rfl,hw'⟩;have hw':=hw'.symm;subst hw';go_wp2_with fail;go_ret;have hal:Below (x1.setCell ⟨b,5,none⟩ (.slice (some ⟨g1,0,none⟩) (n5+1) k1)).heap.size (x1.setCell ⟨b,5,none⟩ (.slice (some ⟨g1,0,none⟩) (n5+1) k1)) ((x1.setCell ⟨b,5,none⟩ (.slice (some ⟨g1,0,none⟩) (n5+1) k1)).alloc (.cells #[.slice aM zs.length cM] 23)):=bA (KL _ _) _;have hg2':((x1.setCell ⟨b,5,none⟩ (.slice (some ⟨g1,0,none⟩) (n5+1) k1)).alloc (.cells #[.slice aM zs.length cM] 23)).grownBy x2 (bn F5 5 (.slice (some ⟨g1,0,none⟩) (n5+1) k1) 6).ownBlock:=by simp only[bn];rw[K8 (by decide),hF6];exact HG2.o
   have h66:bn L5 5 (L5 5++[(aO,xs.length,cO)]) 6=L 6:=by simp only[bn];rw[K8 (by decide)];exact HQL.o.2.2.2.2.2
   have hBk:=(HA1.o.below hal).grow (j:=6) (new:=[(aM,zs.length,cM)]) (by simp) hg2' (by rw[h66,Lb,<-HN6.o,Lr];exact HN2.o) rfl (HW2.o.imp (fun e=>by simp only[bn];rw[K8 (by decide),hF6];exact e) (fun e=>Nat.le_of_eq e.symm));have hsb:B0<=(x1.setCell ⟨b,5,none⟩ (.slice (some ⟨g1,0,none⟩) (n5+1) k1)).heap.size:=by simpa [World.setCell]using hsx1
   have hf5:Fm B0 (fun _=>False) w5 (x2.setCell ⟨b,6,none⟩ (.slice (some ⟨g2,0,none⟩) (n6+1) k2)):=(((Fm.of_below HB9.o (by omega)).trans HFA.o).trans (Fm.of_below hal hsb)).trans ((HA1.o.below hal).grow_fm (by have:=hal.size;omega) hg2');have Me:xs.length<=200:=by
    have h1:=vu x ys LK vid;rw[hSP,<-HXS.o,Ll]at h1;exact h1
   refine⟨by simp,⟨_,_,PL++[((aO,xs.length,cO),xs)],RL++[((aM,zs.length,cM),zs)],HH.o.next (N:=N) (s3:=(some ⟨w.heap.size+1,0,none⟩,ys.length+1,ys.length+1)) (HW5.o.trans hf5) hBk ?_ ?_ ?_ ?_ ?_ ?_ ?_ (fun k s hk=>?_) (HO5.o.fm hf5 (fun _ _ e=>e)) (HM5'.o.fm hf5 (fun _ _ e=>e)) (Nat.le_of_lt (by omega)) hB (by have:=HB2.o.size;omega) (HXS.o.trans HZS.o.symm) (by omega) (fun z hz=>?_),by simp,?_,?_⟩,HW5.o.trans hf5⟩
   ·exact HQL.o.1
   ·exact HQL.o.2.1
   ·exact HQL.o.2.2.1
   ·exact HQL.o.2.2.2.1
   ·show L5 5++_=_
    rw[HQL.o.2.2.2.2.1]
   ·show bn L5 5 _ 6++_=_
    rw[h66]
   ·rw[<-HK3.o]
    exact HR5.o.fm (.inl rfl) hf5 (fun u _ hu _=>⟨fun e=>e,by have:=HGS.o u (.inl hu);omega⟩)
   ·exact(HM5.o k s hk).fm (.inr rfl) hf5 (fun u _ hu _=>⟨fun e=>e,by have:=HGS.o u (.inr hu);omega⟩)
   ·have h1:=ws x ys LK vid 1000000 (fun y hy=>by have:=(HCL.o y hy).2.1;omega)
    rw[hSP,<-HXS.o]at h1;exact h1 _ (List.mem_map_of_mem hz)
   ·show(L5 3).length=_
    rw[HQL.o.2.2.1,Lb];rfl
   ·show(L5 4).length=_
    rw[HQL.o.2.2.2.1,Lb,HNL.o]
theorem F9(w:World)(b B0:Nat)(hb:B0<=b)(h:w.heap[b]?=some (.cells #[.slice none 0 0,.slice none 0 0,.slice none 0 0,.slice none 0 0,.slice none 0 0,.slice none 0 0,.slice none 0 0,.slice none 0 0,.slice none 0 0] 31 (0,0))):jJ w B0 b (fun _=>.slice none 0 0) (fun _=>[]) [] []:=
 ⟨⟨h,hb,fun _=>K7 _ _ _ _,fun i j _ g e=>by simp[Value.ownBlock]at e,rfl,rfl,rfl⟩,rfl,rfl,rfl,rfl,fun k s hk=>by simp at hk,fun k s hk=>by simp at hk,fun p hp=>by simp at hp,fun p hp=>by simp at hp,rfl,List.Pairwise.nil⟩
theorem Ky(w:World)(a b c d e:Obj):∃W,W=((((w.alloc a).alloc b).alloc c).alloc d).alloc e/\W.heap[w.heap.size]?=some a/\W.heap[w.heap.size+1]?=some b/\W.heap[w.heap.size+1+1]?=some c/\W.heap[w.heap.size+1+1+1]?=some d/\W.heap[w.heap.size+1+1+1+1]?=some e/\Lt w W/\W.heap.size=w.heap.size+5:=by
 refine⟨_,rfl,?_,?_,?_,?_,?_,bA (bA (bA (bA (bA (KL _ _) _) _) _) _) _,by simp⟩
 ·rw[bp _ _ _ (by simp<;>omega),bp _ _ _ (by simp<;>omega),bp _ _ _ (by simp<;>omega),bp _ _ _ (by simp)];exact KS w a
 ·rw[bp _ _ _ (by simp<;>omega),bp _ _ _ (by simp<;>omega),bp _ _ _ (by simp)];simpa using KS (w.alloc a) b
 ·rw[bp _ _ _ (by simp<;>omega),bp _ _ _ (by simp)];simpa using KS ((w.alloc a).alloc b) c
 ·rw[bp _ _ _ (by simp)];simpa using KS (((w.alloc a).alloc b).alloc c) d
 ·simpa using KS ((((w.alloc a).alloc b).alloc c).alloc d) e
abbrev vq:bo:=(⟨#[81,117,101,114,121]⟩,⟨#[]⟩,[(⟨#[97]⟩,⟨#[55]⟩)])
theorem DE{W:World}{g h:Nat}(hh:W.heap[h]?=some (.cells #[.string ⟨#[97]⟩,.string ⟨#[55]⟩] 34 (0,0)))(hg:W.heap[g]?=some (.cells #[.string ⟨#[81,117,101,114,121]⟩,.string ⟨#[]⟩,.slice (some ⟨h,0,none⟩) 1 1] 37 (0,0))):eM W (.slice (some ⟨g,0,none⟩) [vq].length 1) [vq]:=by
 have c:=ae hg;have d:=ae hh;refine⟨_,_,rfl,KK _,.inr ⟨g,0,rfl,fun j r hj=>?_⟩⟩;have hj0:j=0:=by have:=(KO.1 hj).1;simp at this;omega
 subst hj0;simp at hj;subst hj;refine⟨c 0,c 1,_,c 2,_,_,rfl,KK _,.inr ⟨h,0,rfl,fun i x hx=>?_⟩⟩;have hi0:i=0:=by have:=(KO.1 hx).1;simp at this;omega
 subst hi0;simp at hx;subst hx;exact⟨d 0,d 1⟩
theorem EV(w:World)(x r1 v1 r2 v2:Ls)(hx:x.size<=maxLen)(hr1:r1.size<=2000000)(hr2:r2.size<=2000000)(aY:Option Addr)(cY:Nat)(ys:List bo)(hY:eM w (.slice aY ys.length cY) ys)(hyl:ys.length<=600000)(hcl:∀y∈ys,y.2.1.size<=2000000/\y.2.2.length<=900000/\∀c∈y.2.2,c.2.size<=2000000):
 Calls prog 4 #[.string x,.slice aY ys.length cY,.agg #[.string r1,.string v1],.agg #[.string r2,.string v2]] w fun e w'=>e=.returned (.bool true)/\Lt w w':=by
 have HY:=aa hY;have HCL:=aa hcl;clear hY hcl;go_enter func4,ntmps4;go_wp2_with fail;obtain⟨W,hW,k0,k1,k2,k3,k4,hb,hz⟩:=Ky w (.cells #[.string r1,.string v1] 25) (.cells #[.string r2,.string v2] 25) (.cells #[.slice none 0 0,.slice none 0 0,.slice none 0 0,.slice none 0 0,.slice none 0 0,.slice none 0 0,.slice none 0 0,.slice none 0 0,.slice none 0 0] 31) (.cells #[.string ⟨#[97]⟩,.string ⟨#[55]⟩] 34) (.cells #[.string ⟨#[81,117,101,114,121]⟩,.string ⟨#[]⟩,.slice (some ⟨w.heap.size+1+1+1,0,none⟩) 1 1] 37);rw[<-hW];clear hW;have HB:=aa hb;have hBW:w.heap.size<=W.heap.size:=hb.size;have HS1:=aa (tU W w.heap.size (w.heap.size+1+1) _ _ [] [] (F9 W _ _ (by omega) k2) hBW ⟨#[114,111,108,101,32,117,115,101,114,32,116,121,112,101,32,81,117,101,114,121,32,123,32,97,58,32,73,110,116,32,125]⟩ ⟨#[117,115,101,114]⟩ ⟨#[]⟩ (by decide) (by decide) (some ⟨w.heap.size+1+1+1+1,0,none⟩) 1 [vq] (fun X hX=>DE ((hX.typ _ _ _ _ k3 (.inr (.inl rfl)) (by omega)).trans k3) ((hX.typ _ _ _ _ k4 (.inl rfl) (by omega)).trans k4)) (by decide) (fun y hy=>by simp at hy;subst hy;exact⟨by decide,by decide,fun c hc=>by simp at hc;subst hc;decide⟩) (by decide) (by decide) (by decide));have K0:=aa k0;have K1:=aa k1;clear k0 k1 k2 k3 k4 hb;refine HS1.o.mono ?_;rintro _ w1 ⟨rfl,⟨F1,L1,PL1,RL1,i1,n1,n2,n3⟩,f1⟩;have hz1:=f1.size;have HF1:=aa (HB.o.trans f1.below);have K01:=aa ((f1.typ _ _ _ _ K0.o (.inr (.inr rfl)) (fun e=>e)).trans K0.o);have K11:=aa ((f1.typ _ _ _ _ K1.o (.inr (.inr rfl)) (fun e=>e)).trans K1.o);have HS2:=aa (tU w1 w.heap.size (w.heap.size+1+1) F1 L1 PL1 RL1 i1 (by omega) x r1 v1 hx hr1 aY cY ys (fun X hX=>HY.o.below (HF1.o.trans hX.below)) (by omega) HCL.o (by rw[n3];simp) (by rw[n2];simp) (by rw[n1];simp));have c0:=ae K01.o;have c1:=ae K11.o;have hl0:=ag K01.o;have hl1:=ag K11.o;have N1:=aa n1;have N2:=aa n2;have N3:=aa n3;clear n1 n2 n3 i1 f1 HS1;go_wp2_with fail;refine HS2.o.mono ?_;rintro _ w2 ⟨rfl,⟨F2,L2,PL2,RL2,i2,n1,n2,n3⟩,f2⟩;have hz2:=f2.size;have HF2:=aa (HF1.o.trans f2.below);have K02:=aa ((f2.typ _ _ _ _ K01.o (.inr (.inr rfl)) (fun e=>e)).trans K01.o);have K12:=aa ((f2.typ _ _ _ _ K11.o (.inr (.inr rfl)) (fun e=>e)).trans K11.o);rw[N1.o]at n1;rw[N2.o]at n2;rw[N3.o]at n3;have HS3:=aa (tU w2 w.heap.size (w.heap.size+1+1) F2 L2 PL2 RL2 i2 (by omega) x r2 v2 hx hr2 aY cY ys (fun X hX=>HY.o.below (HF2.o.trans hX.below)) (by omega) HCL.o (by rw[n3];simp;omega) (by rw[n2];simp) (by rw[n1];simp));have c0:=ae K02.o;have c1:=ae K12.o;have hl0:=ag K02.o;have hl1:=ag K12.o;have M1:=aa n1;have M2:=aa n2;have M3:=aa n3;clear n1 n2 n3 i2 f2 HS2;go_wp2_with fail;refine HS3.o.mono ?_;rintro _ w3 ⟨rfl,⟨F3,L3,PL3,RL3,i3,n1,n2,n3⟩,f3⟩;have hz3:=f3.size;have HF3:=aa (HF2.o.trans f3.below);have K03:=aa ((f3.typ _ _ _ _ K02.o (.inr (.inr rfl)) (fun e=>e)).trans K02.o);rw[M1.o]at n1;rw[M2.o]at n2;rw[M3.o]at n3;have HS4:=aa (tU w3 w.heap.size (w.heap.size+1+1) F3 L3 PL3 RL3 i3 (by omega) x r1 v1 hx hr1 aY cY ys (fun X hX=>HY.o.below (HF3.o.trans hX.below)) (by omega) HCL.o (by rw[n3];simp;omega) (by rw[n2];simp) (by rw[n1];simp));have c0:=ae K03.o;have hl0:=ag K03.o;have Q1:=aa n1;have Q2:=aa n2;have Q3:=aa n3;clear n1 n2 n3 i3 f3 HS3;go_wp2_with fail;refine HS4.o.mono ?_;rintro _ w4 ⟨rfl,⟨F4,L4,PL4,RL4,i4,n1,n2,n3⟩,f4⟩;have hz4:=f4.size;have HF4:=aa (HF3.o.trans f4.below);rw[Q1.o]at n1;rw[Q2.o]at n2;rw[Q3.o]at n3;have HSE:=aa (Fp w4 w.heap.size (w.heap.size+1+1) F4 L4 PL4 RL4 i4 (by omega) (by rw[n1];simp) (by rw[n2];simp) (by rw[n3];simp;omega));clear n1 n2 n3 i4 f4 HS4;go_wp2_with fail;refine HSE.o.mono ?_;rintro _ w5 ⟨rfl,⟨l1,l2,l4,l5,u,v,L1',L2',L4',L5',hbook⟩,b5⟩;have HF5:=aa (HF4.o.trans b5);have HLK:=aa (D7 w5 _ l1 l2 l4 l5 u v L1' L2' L4' L5' hbook);have hz5:=b5.size;clear hbook b5 HSE;go_wp2_with fail;refine HLK.o.mono ?_;rintro _ w6 ⟨rfl,b6⟩;have HF6:=aa (HF5.o.trans (b6.mono (by omega)));clear b6;go_wp2_with fail;go_ret;exact⟨rfl,HF6.o⟩
end Go.Proofs.YtgbloieahmkcjaaGreat
