import Derived.Test.YtgbloieahmkcjaaGreatC21
import Derived.Deep.AppendLies
namespace Go.Proofs.YtgbloieahmkcjaaGreat
set_option maxHeartbeats 20000000
set_option maxRecDepth 100000
open Go.RowKit Tryz
theorem wj{T:TypeId}{sh:Nat}{wr X:World}{B0 lo k:Nat}{fs:List FV}{l:List RV}{aL:Option Addr}{cL:Nat}(LJ:wr.ownsRow B0 T 4 (.slice aL fs.length cL) fs.length (fs.flatMap lD))(hl:fs.length=l.length)
 (Mo:∀(i:Nat) (x:FV) (r:RV),fs[i]?=some x->l[i]?=some r->bI wr (fun g=>B0<=g/\g<wr.heap.size/\(Value.slice aL fs.length cL).ownBlock≠some g) k x r)
 (hlo:lo<=B0) (hc:∀g,B0<=g->∀o,X.cell? ⟨g,o,none⟩=wr.cell? ⟨g,o,none⟩) (hX:wr.heap.size<=X.heap.size):
 bI X (fun g=>lo<=g/\g<X.heap.size) (k+1) ⟨sh,0,⟨#[]⟩,aL,fs.length,cL⟩ (.mk sh 0 ⟨#[]⟩ l):=by
 obtain⟨a,c,e,h⟩:=G5 (B:=fun g=>B0<=g/\g<wr.heap.size) (k:=k) LJ hl (fun i x r hx hr=>(Mo i x r hx hr).frame (fun _ _ _=>rfl) (fun g hg=>⟨hg.1,hg.2.1⟩)) (fun g hg=>by
  rcases LJ.2 with⟨hv,_⟩|⟨g',cap,cur,hv,hg',hh,_⟩
  ·injection hv with h1 _ _;subst h1;cases hg
  ·cases hv;cases hg
   exact⟨hg',ag hh⟩)
 cases e;exact h.frame (fun g hg o=>hc g hg.1 o) (fun g hg=>⟨by omega,by omega⟩)
theorem info119:(prog.info? 119).map (fun i=>(i.zero,i.size,i.bytes))=some (some (.agg #[.int .i64 0,.int .i64 0,.string ⟨#[]⟩,.slice none 0 0]),4,56):=by kernel_rfl
theorem uD{a b c d:Value}(h1:a.oneCell'=true)(h2:b.oneCell'=true)(h3:c.oneCell'=true)(h4:d.oneCell'=true):∀u∈[a,b,c,d],u.oneCell'=true:=by
 intro u hu;simp at hu;rcases hu with rfl|rfl|rfl|rfl<;>assumption
theorem jC{w:World}{base n size N:Nat}{e:TypeId}{v:Value}{xs:List Value}(ho:w.ownsRow base e size v n xs)(h:N<base):v.ownBlock≠some N:=by
 rcases ho.2 with⟨x,_⟩|⟨g,cap,cur,hv,hg,hh,r⟩
 ·rw[x];intro e;cases e
 ·rw[hv];intro e;have e':g=N:=KY e;omega
theorem rU{w:World}{base n size N:Nat}{e:TypeId}{v:Value}{xs:List Value}(ho:w.ownsRow base e size v n xs)(h:N<base)(i:Nat)(u:Value):(w.setCell ⟨N,i,none⟩ u).ownsRow base e size v n xs:=by
 refine⟨ho.1,?_⟩;rcases ho.2 with hx|⟨g,cap,cur,hv,hg,hh,r⟩
 ·exact Or.inl hx
 ·refine Or.inr ⟨g,cap,cur,hv,hg,?_,r⟩
  rw[KX _ _ _ _ (show g≠N from by omega)];exact hh
theorem ep{w:World}{base n size:Nat}{e:TypeId}{v:Value}{xs:List Value}(ho:w.ownsRow base e size v n xs)(k:Nat)(h:v.ownBlock=some k):k<w.heap.size:=by
 rcases ho.2 with⟨x,_⟩|⟨g,cap,cur,hv,hg,hh,r⟩
 ·rw[x]at h;cases h
 ·rw[hv]at h
  have e':g=k:=KY h;rw[<-e'];exact ag hh
theorem i7{w:World}{base n size:Nat}{e:TypeId}{v:Value}{xs:List Value}(ho:w.ownsRow base e size v n xs)(k:Nat)(h:v.ownBlock=some k):base<=k:=by
 rcases Nat.lt_or_ge k base with q|q
 ·exact absurd h (jC ho q)
 ·exact q
theorem Hs(f d:Nat)(ih:∀f0,f0<=f->Cl f0)(s:St)(w:World)(b:Nat)(L:Value)(ts:List Tk)(h:RS w b L ts s)(hd:d<10)(hf:2*ln s<=f)(hl:dN s=false)(h5:af s 5=false)(h11:af s 11=false):
 Calls prog 120 #[.pointer (some ⟨b,0,none⟩),.int .i64 d] w fun e w'=>∃v:FV,e=.returned (bw v)/\bI w' (fun g=>w.heap.size<=g/\g<w'.heap.size) (f+1) v (.mk 5 0 ⟨#[]⟩ (bJ f d (ak s (af s 12))).1)/\RS w' b L ts (bJ f d (ak s (af s 12))).2/\ai b w w':=by
 have hlt:=h.lt;obtain⟨iV,hiV,zV0,zV1,zV2⟩:=info_parts info119;have hp:∀W,Lt w W->Calls prog 155 #[.pointer (some ⟨b,0,none⟩)] W fun e w'=>e=.returned (.tuple #[bw (br s),.bool false])/\RS w' b L ts s/\ai b W w':=fun W hW=>by
  have:=qi W b L ts s (h.below hW);rw[hl]at this;exact this
 have hm:∀W,RS W b L ts s->Calls prog 67 #[.pointer (some ⟨b,0,none⟩),.int .i64 4,.string ⟨#[33]⟩] W fun e w'=>e=.returned (.bool false)/\RS w' b L ts s/\ai b W w':=fun W hW=>by
  have:=gI W b L ts s 5 ⟨#[33]⟩ (by decide) (by decide) (by decide) hW;rw[h5]at this;exact this
 have hm2:∀W,RS W b L ts s->Calls prog 67 #[.pointer (some ⟨b,0,none⟩),.int .i64 4,.string ⟨#[64]⟩] W fun e w'=>e=.returned (.bool false)/\RS w' b L ts s/\ai b W w':=fun W hW=>by
  have:=gI W b L ts s 11 ⟨#[64]⟩ (by decide) (by decide) (by decide) hW;rw[h11]at this;exact this
 have hm3:∀W,RS W b L ts s->Calls prog 70 #[.pointer (some ⟨b,0,none⟩),.int .i64 4,.string ⟨#[91]⟩] W fun e w'=>e=.returned (.tuple #[])/\RS w' b L ts (ak s (af s 12))/\ai b W w':=fun W hW=>gQ W b L ts s 12 ⟨#[91]⟩ (by decide) (by decide) (by decide) hW;have e10:decide ((10:Int)<=(d:Int))=false:=by simp;omega
 have hs1f:ak s (af s 12)=none\/2*ln (ak s (af s 12))+2<=f:=by
  cases e:af s 12
  ·left;rfl
  ·right;have:=eY s 12 (by decide) e;simp only[ak,if_true];omega
 have HS1:=aa hs1f;have HIH:=aa ih;have hl801:ln (ak s (af s 12))<=801:=KP (cg s _) h.lnle;clear ih hs1f;have HP:=aa hp;have HM:=aa hm;have HM2:=aa hm2;have HM3:=aa hm3;have H0:=aa h;clear h hp hl hm h5 h11 hm2 hm3;have HV:=aa (show bw (br s)=.agg #[.int .i64 (br s).sh,.int .i64 (br s).n,.string (br s).s,.slice (br s).la (br s).ln (br s).lc]from rfl);rw[HV.o]at HP;clear HV;generalize br s=v at*;generalize ak s (af s 12)=s1 at*;go_enter func120,ntmps120;go_wp2_with fail;refine(HP.o _ ((KL _ _).alloc (KK _) _)).mono ?_;clear HP;rintro e w1 ⟨rfl,hr1,hk1⟩;have HN1:=aa hr1;have hR:=hk1.at (KS w (.cells #[.int .i64 0,.int .i64 0,.string ⟨#[]⟩,.slice none 0 0] 119)) (by omega);have HR:=aa hR;have hs1:w.heap.size<w1.heap.size:=ag hR;have hb1:b<w1.heap.size:=hr1.lt;have hK0:ai b w w1:=(ai.of_below ((KL _ _).alloc (KK _) _)).trans hk1;have HK0:=aa hK0;clear hR hk1 hr1 hK0;go_wp2_with fail;refine(HM.o _ (HN1.o.below ((KL _ _).alloc (KK _) _))).mono ?_;clear HM;rintro e w2 ⟨rfl,hr2,hk2⟩;have HN2:=aa hr2;have HR2:=aa (hk2.at ((bp _ _ _ hs1).trans HR.o) (by omega));have HV2:=aa (hk2.at (KS w1 (.cells #[.int .i64 v.sh,.int .i64 v.n,.string v.s,.slice v.la v.ln v.lc] 119)) (by omega));have HK2:=aa ((HK0.o.alloc _).trans hk2);clear hk2 hr2;go_wp2_with fail;refine(HM2.o _ HN2.o).mono ?_;clear HM2;rintro e w3 ⟨rfl,hr3,hk3⟩;have HN3:=aa hr3;have HR3:=aa (hk3.at HR2.o (by omega));have HV3:=aa (hk3.at HV2.o (by omega));have HK3:=aa (HK2.o.trans hk3);clear hk3 hr3;go_wp2_with fail;refine(HM3.o _ HN3.o).mono ?_;clear HM3;rintro e w4 ⟨rfl,hr4,hk4⟩;have HN4:=aa hr4;have hR4:=hk4.at HR3.o (by omega);have hV4:=hk4.at HV3.o (by omega);have HR4:=aa hR4;have HV4:=aa hV4;have HK4:=aa (HK3.o.trans hk4);have hb4:b<w4.heap.size:=hr4.lt;have hs4:w.heap.size<w4.heap.size:=ag hR4;have hs5:w1.heap.size<w4.heap.size:=ag hV4;have v0:w4.cell? ⟨w1.heap.size,0,none⟩=some (.int .i64 v.sh):=ae hV4 0;have v1:w4.cell? ⟨w1.heap.size,1,none⟩=some (.int .i64 v.n):=ae hV4 1;have v2:w4.cell? ⟨w1.heap.size,2,none⟩=some (.string v.s):=ae hV4 2;have v3:w4.cell? ⟨w1.heap.size,3,none⟩=some (.slice v.la v.ln v.lc):=ae hV4 3;have vf:∀j,w4.frozen? ⟨w1.heap.size,j,none⟩=false:=fun j=>ar hV4 j;clear hk4 hr4 hR4 hV4;go_wp2_with fail;go_loopg [6] (ln s1) (fun k v6 wr=>∃(fs:List FV) (l:List RV) (vL:Value) (s':St) (f':Nat),ln s'<=k/\(s'=none\/2*ln s'+2<=f')/\f'<=f/\RS wr b L ts s'/\wr.heap[w1.heap.size]?=some (.cells #[.int .i64 5,.int .i64 0,.string ⟨#[]⟩,vL] 119 (0,0))/\wr.heap[w.heap.size]?=some (.cells #[.int .i64 0,.int .i64 0,.string ⟨#[]⟩,.slice none 0 0] 119 (0,0))/\wr.ownsRow w4.heap.size 119 4 vL fs.length (fs.flatMap lD)/\fs.length=l.length/\fs.length+ln s'<=803/\(∀(i:Nat) (x:FV) (r:RV),fs[i]?=some x->l[i]?=some r->bI wr (fun g=>w4.heap.size<=g/\g<wr.heap.size/\vL.ownBlock≠some g) f x r)/\w4.heap.size<=wr.heap.size/\ai b w wr/\bJ f d s1=(l++(bJ f' d s').1,(bJ f' d s').2))
 case atStart=>
  have hk:ai b w ((((w4.setCell ⟨w1.heap.size,0,none⟩ (.int .i64 5)).setCell ⟨w1.heap.size,1,none⟩ (.int .i64 0)).setCell ⟨w1.heap.size,2,none⟩ (.string ⟨#[]⟩)).setCell ⟨w1.heap.size,3,none⟩ (.slice none 0 0)):=
   (((HK4.o.setNew _ (Nat.le_of_lt hs1) _).setNew _ (Nat.le_of_lt hs1) _).setNew _ (Nat.le_of_lt hs1) _).setNew _ (Nat.le_of_lt hs1) _
  exact⟨[],[],_,s1,f,KK _,HS1.o,KK _,HN4.o.move H0.o hk (fD _ _ _ (by omega) _ _ _ _),rD HV4.o _ _ _ _,(fD _ _ _ (by omega) _ _ _ _).trans HR4.o,K7 _ _ _ _,rfl,by simp;omega,fun i x r hx _=>by simp at hx,by simp[World.setCell],hk,rfl⟩
 case round=>
  obtain⟨fs,l,vL,s',f',hlk,hff,hf'f,hr,hv,Mp,LJ,hfl,Me,Mo,hsz,hk,hrel⟩:=hrel;obtain⟨aL,cL,hvL⟩:=bc LJ;subst hvL;have HE:=aa hrel;have HFL:=aa hfl;clear hfl;have hblt:=hr.lt;clear hrel HN1 HN2 HN3 HN4 HR HR2 HR3 HR4 HV2 HV3 HV4 HK0 HK2 HK3 HK4 v0 v1 v2 v3 vf;by_cases hn:s'=none
  ·subst hn
   have cb:=hr.bad_none;have HRr:=aa hr;have HE2:=aa (show bJ f d s1=(l,none)from by rw[HE.o,mT];simp);have c0:wr.cell? ⟨w1.heap.size,0,none⟩=some (.int .i64 5):=ae hv 0;have c1:wr.cell? ⟨w1.heap.size,1,none⟩=some (.int .i64 0):=ae hv 1;have c2:wr.cell? ⟨w1.heap.size,2,none⟩=some (.string ⟨#[]⟩):=ae hv 2;have c3:wr.cell? ⟨w1.heap.size,3,none⟩=some (.slice aL fs.length cL):=ae hv 3;have r0:wr.cell? ⟨w.heap.size,0,none⟩=some (.int .i64 0):=ae Mp 0;have r1:wr.cell? ⟨w.heap.size,1,none⟩=some (.int .i64 0):=ae Mp 1;have r2:wr.cell? ⟨w.heap.size,2,none⟩=some (.string ⟨#[]⟩):=ae Mp 2;have r3:wr.cell? ⟨w.heap.size,3,none⟩=some (.slice none 0 0):=ae Mp 3;have rf:∀j,wr.frozen? ⟨w.heap.size,j,none⟩=false:=fun j=>ar Mp j;have hvl:w1.heap.size<wr.heap.size:=ag hv;have hrl:w.heap.size<wr.heap.size:=ag Mp;have HKF:=aa (show∀x' y' z' u,ai b w ((((wr.setCell ⟨w.heap.size,0,none⟩ x').setCell ⟨w.heap.size,1,none⟩ y').setCell ⟨w.heap.size,2,none⟩ z').setCell ⟨w.heap.size,3,none⟩ u)from fun x' y' z' u=>
    (((hk.setNew _ (KK _) _).setNew _ (KK _) _).setNew _ (KK _) _).setNew _ (KK _) _)
   have HVF:=aa (show∀x' y' z' u,bI ((((wr.setCell ⟨w.heap.size,0,none⟩ x').setCell ⟨w.heap.size,1,none⟩ y').setCell ⟨w.heap.size,2,none⟩ z').setCell ⟨w.heap.size,3,none⟩ u) (fun g=>w.heap.size<=g/\g<((((wr.setCell ⟨w.heap.size,0,none⟩ x').setCell ⟨w.heap.size,1,none⟩ y').setCell ⟨w.heap.size,2,none⟩ z').setCell ⟨w.heap.size,3,none⟩ u).heap.size) (f+1) ⟨5,0,⟨#[]⟩,aL,fs.length,cL⟩ (.mk 5 0 ⟨#[]⟩ l)from fun x' y' z' u=>
    wj (B0:=w4.heap.size) (lo:=w.heap.size) LJ HFL.o Mo (Nat.le_of_lt hs4) (fun g hg o=>World.cell?_of_block (a:=⟨g,o,none⟩) (fD _ _ g (show g≠w.heap.size from by omega) _ _ _ _)) (by simp[World.setCell]))
   clear hr hv Mp hk LJ Mo HE hff;go_wp2_with fail;refine bodyPost_ret (v:=.agg #[.int .i64 5,.int .i64 0,.string ⟨#[]⟩,.slice aL fs.length cL]) (by simp[results,results120,go_sem,r0,r1,r2,r3]) rfl ⟨⟨5,0,⟨#[]⟩,aL,fs.length,cL⟩,rfl,?_,?_,HKF.o _ _ _ _⟩
   ·rw[HE2.o];exact HVF.o _ _ _ _
   ·rw[HE2.o];exact HRr.o.move H0.o (HKF.o _ _ _ _) (fD _ _ _ (by omega) _ _ _ _)
  ·obtain⟨a,bad,q1,q2,q3⟩:=hr.st
   have MA:bad=false:=by
    cases bad
    ·rfl
    ·exact absurd q3 hn
   subst MA;have cb:wr.cell? ⟨b,2,none⟩=some (.bool false):=ae q1 2;have hff2:2*ln s'+2<=f':=by
    rcases hff with e|e
    ·exact absurd e hn
    ·exact e
   have HNE:=aa hn;have hm:=gI wr b L ts s' 13 ⟨#[93]⟩ (by decide) (by decide) (by decide) hr;have HR0:=aa hr;have HV0:=aa hv;have NU:=aa Mp;have Mq:=aa LJ;have N7:=aa Mo;have HK0:=aa hk;clear q1 q2 q3 hr hff hn hv Mp LJ Mo hk;obtain⟨f2,rfl⟩:∃f2,f'=f2+1:=⟨f'-1,by omega⟩;cases h13:af s' 13
   ·rw[h13]at hm
    go_wp2_with fail;refine hm.mono ?_;clear hm;rintro e w5 ⟨rfl,hr5,hk5⟩;have HC:=aa (show∀W,RS W b L ts s'->Calls prog 120 #[.pointer (some ⟨b,0,none⟩),.int .i64 ((d:Int)+1)] W fun e w'=>∃v:FV,e=.returned (bw v)/\bI w' (fun g=>W.heap.size<=g/\g<w'.heap.size) f2 v (bz f2 (d+1) s').1/\RS w' b L ts (bz f2 (d+1) s').2/\ai b W w' from fun W hW=>by
     have q:=HIH.o f2 (by omega) (d+1) s' W b L ts hW (by omega) (by omega);rw[show((d+1:Nat):Int)=(d:Int)+1 from by omega]at q;exact q)
    have hl6:=su (f2-1) (d+1) s' HNE.o;rw[show f2-1+1=f2 from by omega]at hl6;have HE2:=aa (show bJ f d s1=((l++[(bz f2 (d+1) s').1])++(bJ f2 d (bz f2 (d+1) s').2).1,(bJ f2 d (bz f2 (d+1) s').2).2)from by rw[HE.o,bJ,K8 HNE.o,K8 (by rw[h13];decide)];simp);have HR5:=aa (show RS w5 b L ts s' from hr5);have HV5:=aa (hk5.at HV0.o (by omega));have Nm:=aa (hk5.at NU.o (by omega));have HK5:=aa (HK0.o.trans hk5);have OA:=aa (HR0.o.keepOwn hk5 Mq.o (by decide));have HSUB5:=aa (show∀(i:Nat) (x:FV) (r:RV),fs[i]?=some x->l[i]?=some r->bI w5 (fun g=>w4.heap.size<=g/\g<w5.heap.size/\(Value.slice aL fs.length cL).ownBlock≠some g) f x r from fun i x r hx hr=>(N7.o i x r hx hr).frame (fun g hg o=>World.cell?_of_block (a:=⟨g,o,none⟩) (hk5.block g hg.2.1 (by omega))) (fun g hg=>⟨hg.1,KV hg.2.1 hk5.size,hg.2.2⟩));have NC:w4.heap.size<=w5.heap.size:=KP hsz hk5.size;clear hr5 hk5 HR0 HV0 NU Mq N7 HK0 HE HIH h13 hsz;generalize (bz f2 (d+1) s').1=r6 at*;generalize (bz f2 (d+1) s').2=s6 at*;go_wp2_with fail;refine(HC.o w5 HR5.o).mono ?_;clear HC;rintro e w6 ⟨v2,rfl,hvat,hr6,hk6⟩;unfold bw;have HVAT:=aa hvat;have HR6:=aa hr6;have hV6:=hk6.at HV5.o (by omega);have HV6:=aa hV6;have HRES6:=aa (hk6.at Nm.o (by omega));have HK6:=aa (HK5.o.trans hk6);have Nw:=aa (HR5.o.keepOwn hk6 OA.o (by decide));have HSUB6:=aa (show∀(i:Nat) (x:FV) (r:RV),fs[i]?=some x->l[i]?=some r->bI w6 (fun g=>w4.heap.size<=g/\g<w5.heap.size/\(Value.slice aL fs.length cL).ownBlock≠some g) f x r from fun i x r hx hr=>(HSUB5.o i x r hx hr).frame (fun g hg o=>World.cell?_of_block (a:=⟨g,o,none⟩) (hk6.block g hg.2.1 (by omega))) (fun g hg=>hg));have hsz6:w5.heap.size<=w6.heap.size:=hk6.size;have hvl:w1.heap.size<w6.heap.size:=ag hV6;have c3:w6.cell? ⟨w1.heap.size,3,none⟩=some (.slice aL fs.length cL):=ae hV6 3;have f3:w6.frozen? ⟨w1.heap.size,3,none⟩=false:=ar hV6 3;have hne:(Value.slice aL fs.length cL).ownBlock≠some w1.heap.size:=jC Nw.o hs5;have hneb:(Value.slice aL fs.length cL).ownBlock≠some b:=jC Nw.o hb4;have hner:(Value.slice aL fs.length cL).ownBlock≠some w.heap.size:=jC Nw.o hs4;have HNES:=aa (And.intro hne (And.intro hneb hner));have No:=aa (show∀k,(Value.slice aL fs.length cL).ownBlock=some k->k<w5.heap.size from fun k hk=>ep OA.o k hk);clear hvat hr6 hk6 hV6 HR5 HV5 Nm HK5 OA HSUB5 hneb hner;go_wp2_with (at_builtin;refine wpList_append_lies _ rfl _ _ 111 rfl w4.heap.size 119 iV _ 4 56 underlying111 hiV zV0 zV1 zV2 rfl (by decide) _ _ _ rfl ((Nw.o.alloc _).alloc _) ⟨w6.heap.size+1,0,none⟩ 1 1 [.int .i64 v2.sh,.int .i64 v2.n,.string v2.s,.slice v2.la v2.ln v2.lc] rfl rfl (de _ _ _ _ (by simp)) (uD rfl rfl rfl rfl) (by decide) (by unfold maxLen;omega) (by omega) (by simp;omega) (w6.heap.size+2) (by simp) ?_;intro g' LM x3 hown' hgrow hwh hgs;have hX5:=jq hgrow (((di w6 _ _).block _ hvl).trans HV6.o) hne;have hc5:=(ae hX5 3:x3.cell? ⟨w1.heap.size,3,none⟩=some (.slice aL fs.length cL));have hf5:=ar hX5 3;have HX5:=aa hX5;have MS:=aa hown';have LT:=aa hgrow;have HWH:=aa hwh;clear hX5 hown' hgrow hwh);have hgz:=LT.o.size;simp at hgz;have hrl6:=ag HRES6.o;have hb6:=HR6.o.lt;have HKX:=aa (((((HK6.o.alloc (.cells #[.int .i64 v2.sh,.int .i64 v2.n,.string v2.s,.slice v2.la v2.ln v2.lc] 119)).alloc (.cells #[.int .i64 v2.sh,.int .i64 v2.n,.string v2.s,.slice v2.la v2.ln v2.lc] 119)).grown LT.o (fun k hk=>KP (Nat.le_of_lt hs4) (i7 Nw.o k hk))).setNew ⟨w1.heap.size,3,none⟩ (Nat.le_of_lt hs1) (.slice (some ⟨g',0,none⟩) (fs.length+1) LM)));have MX:=aa (show∀k,k<w6.heap.size->(Value.slice aL fs.length cL).ownBlock≠some k->k≠w1.heap.size->(x3.setCell ⟨w1.heap.size,3,none⟩ (.slice (some ⟨g',0,none⟩) (fs.length+1) LM)).heap[k]?=w6.heap[k]? from fun k hk hk2 hk3=>by
     rw[KX _ _ _ _ (show k≠w1.heap.size from hk3),LT.o.block k (by simp;omega) (fun e=>hk2 e.symm)];exact(di w6 _ _).block k hk)
    go_roundg (ln s6)
    case measure=>omega
    case rel=>
     refine⟨fs++[v2],l++[r6],.slice (some ⟨g',0,none⟩) (fs.length+1) LM,s6,f2,KK _,Or.inr (by omega),by omega,HR6.o.move H0.o HKX.o (MX.o b hb6 HNES.o.2.1 (by omega)),?_,(MX.o _ hrl6 HNES.o.2.2 (by omega)).trans HRES6.o,?_,by simp[HFL.o],by simp;omega,?_,?_,HKX.o,HE2.o⟩
     ·exact aJ HX5.o 3 _
     ·rw[Lb,List.flatMap_append]
      exact rU MS.o hs5 3 _
     ·intro i x r hx hr
      rcases Nat.lt_or_ge i fs.length with hi|hi
      ·rw[Lf hi]at hx
       rw[Lf (by rw[<-HFL.o];exact hi)]at hr;refine(HSUB6.o i x r hx hr).frame (fun g hg o=>World.cell?_of_block (a:=⟨g,o,none⟩) (MX.o g (by omega) hg.2.2 (by omega))) (fun g hg=>⟨hg.1,?_,?_⟩)
       ·have:=hg.2.1
        simp[World.setCell];omega
       ·intro e
        have e':g'=g:=KY e;rcases HWH.o with q|q
        ·exact hg.2.2 (by rw[<-e'];exact q)
        ·omega
      ·have hi2:i=fs.length:=by have:=(KO.1 hx).1;simp at this;omega
       subst hi2;have hx2:x=v2:=by simpa using hx.symm
       have hr2:r=r6:=by rw[HFL.o]at hr;simpa using hr.symm
       subst hx2 hr2;refine(HVAT.o.le (show f2<=f from by omega)).frame (fun g hg o=>World.cell?_of_block (a:=⟨g,o,none⟩) (MX.o g hg.2 (fun e=>by have:=No.o g e;omega) (by omega))) (fun g hg=>⟨by omega,?_,?_⟩)
       ·have:=hg.2
        simp[World.setCell];omega
       ·intro e
        have e':g'=g:=KY e;rcases HWH.o with q|q
        ·have:=No.o g' q;omega
        ·omega
     ·simp[World.setCell];omega
   ·rw[h13]at hm
    have HE2:=aa (show bJ f d s1=(l,tl s')from by rw[HE.o,bJ,K8 HNE.o,K9 h13];simp);clear HE h13;go_wp2_with fail;refine hm.mono ?_;clear hm;rintro e w5 ⟨rfl,hr5,hk5⟩;have HRr:=aa (show RS w5 b L ts (tl s')from hr5);have hv:=hk5.at HV0.o (by omega);have Mp:=hk5.at NU.o (by omega);have hk:=HK0.o.trans hk5;have LJ:=HR0.o.keepOwn hk5 Mq.o (by decide);have Mo:∀(i:Nat) (x:FV) (r:RV),fs[i]?=some x->l[i]?=some r->bI w5 (fun g=>w4.heap.size<=g/\g<w5.heap.size/\(Value.slice aL fs.length cL).ownBlock≠some g) f x r:=fun i x r hx hr=>(N7.o i x r hx hr).frame (fun g hg o=>World.cell?_of_block (a:=⟨g,o,none⟩) (hk5.block g hg.2.1 (by omega))) (fun g hg=>⟨hg.1,KV hg.2.1 hk5.size,hg.2.2⟩);have hb5:=hr5.lt;have c0:w5.cell? ⟨w1.heap.size,0,none⟩=some (.int .i64 5):=ae hv 0;have c1:w5.cell? ⟨w1.heap.size,1,none⟩=some (.int .i64 0):=ae hv 1;have c2:w5.cell? ⟨w1.heap.size,2,none⟩=some (.string ⟨#[]⟩):=ae hv 2;have c3:w5.cell? ⟨w1.heap.size,3,none⟩=some (.slice aL fs.length cL):=ae hv 3;have r0:w5.cell? ⟨w.heap.size,0,none⟩=some (.int .i64 0):=ae Mp 0;have r1:w5.cell? ⟨w.heap.size,1,none⟩=some (.int .i64 0):=ae Mp 1;have r2:w5.cell? ⟨w.heap.size,2,none⟩=some (.string ⟨#[]⟩):=ae Mp 2;have r3:w5.cell? ⟨w.heap.size,3,none⟩=some (.slice none 0 0):=ae Mp 3;have rf:∀j,w5.frozen? ⟨w.heap.size,j,none⟩=false:=fun j=>ar Mp j;have hvl:w1.heap.size<w5.heap.size:=ag hv;have hrl:w.heap.size<w5.heap.size:=ag Mp;have HKF:=aa (show∀x' y' z' u,ai b w ((((w5.setCell ⟨w.heap.size,0,none⟩ x').setCell ⟨w.heap.size,1,none⟩ y').setCell ⟨w.heap.size,2,none⟩ z').setCell ⟨w.heap.size,3,none⟩ u)from fun x' y' z' u=>
     (((hk.setNew _ (KK _) _).setNew _ (KK _) _).setNew _ (KK _) _).setNew _ (KK _) _)
    have HVF:=aa (show∀x' y' z' u,bI ((((w5.setCell ⟨w.heap.size,0,none⟩ x').setCell ⟨w.heap.size,1,none⟩ y').setCell ⟨w.heap.size,2,none⟩ z').setCell ⟨w.heap.size,3,none⟩ u) (fun g=>w.heap.size<=g/\g<((((w5.setCell ⟨w.heap.size,0,none⟩ x').setCell ⟨w.heap.size,1,none⟩ y').setCell ⟨w.heap.size,2,none⟩ z').setCell ⟨w.heap.size,3,none⟩ u).heap.size) (f+1) ⟨5,0,⟨#[]⟩,aL,fs.length,cL⟩ (.mk 5 0 ⟨#[]⟩ l)from fun x' y' z' u=>
     wj (B0:=w4.heap.size) (lo:=w.heap.size) LJ HFL.o Mo (Nat.le_of_lt hs4) (fun g hg o=>World.cell?_of_block (a:=⟨g,o,none⟩) (fD _ _ g (show g≠w.heap.size from by omega) _ _ _ _)) (by simp[World.setCell]))
    clear hr5 hv Mp hk LJ Mo hk5 HR0 HV0 NU Mq N7 HK0;go_wp2_with fail;refine bodyPost_ret (v:=.agg #[.int .i64 5,.int .i64 0,.string ⟨#[]⟩,.slice aL fs.length cL]) (by simp[results,results120,go_sem,r0,r1,r2,r3]) rfl ⟨⟨5,0,⟨#[]⟩,aL,fs.length,cL⟩,rfl,?_,?_,HKF.o _ _ _ _⟩
    ·rw[HE2.o];exact HVF.o _ _ _ _
    ·rw[HE2.o];exact HRr.o.move H0.o (HKF.o _ _ _ _) (fD _ _ _ (by omega) _ _ _ _)
theorem GX(f:Nat):Cl f:=by
 induction f using Nat.strongRecOn with
 |ind f ih=>
  intro d s w b L ts h hf hd;obtain⟨f0,rfl⟩:∃f0,f=f0+1:=⟨f-1,by omega⟩;cases hl:dN s with
  |true=>
   rw[show bz (f0+1) d s=(wY (br s),tl s)from by rw[bz,K9 hl]];refine(Gk w b L ts s d h hl).mono ?_;rintro e w' ⟨rfl,hr,hk⟩;exact⟨_,rfl,bI.flat _ _ (FB s),hr,hk⟩
  |false=>
   cases h5:af s 5 with
   |true=>
    rw[show bz (f0+1) d s=(.mk 6 0 ⟨#[]⟩ [],tl s)from by rw[bz,K8 (by simp[hl]),K9 h5]];refine(GU w b L ts s d h hl h5).mono ?_;rintro e w' ⟨rfl,hr,hk⟩;exact⟨_,rfl,bI.flat _ ⟨6,0,⟨#[]⟩,none,0,0⟩ rfl,hr,hk⟩
   |false=>
    cases h11:af s 11 with
    |true=>
     rw[show bz (f0+1) d s=(.mk 4 0 (tx (tl s)) [],jU (tl s))from by rw[bz,K8 (by simp[hl]),K8 (by simp[h5]),K9 h11]];refine(JL w b L ts s d h hl h5 h11).mono ?_;rintro e w' ⟨rfl,hr,hk⟩;exact⟨_,rfl,bI.flat _ ⟨4,0,tx (tl s),none,0,0⟩ rfl,hr,hk⟩
    |false=>
     by_cases hd2:10<=d
     ·rw[show bz (f0+1) d s=(.mk 5 0 ⟨#[]⟩ [],none)from by rw[bz,K8 (by simp[hl]),K8 (by simp[h5]),K8 (by simp[h11]),K9 hd2,mT]]
      refine(KB d s w b L ts h hd2 hd hl h5 h11).mono ?_;rintro e w' ⟨rfl,hr,hk⟩;exact⟨_,rfl,bI.flat _ ⟨5,0,⟨#[]⟩,none,0,0⟩ rfl,hr,hk⟩
     ·rw[show bz (f0+1) d s=(.mk 5 0 ⟨#[]⟩ (bJ f0 d (ak s (af s 12))).1,(bJ f0 d (ak s (af s 12))).2)from by rw[bz,K8 (by simp[hl]),K8 (by simp[h5]),K8 (by simp[h11]),K8 hd2]]
      exact Hs f0 d (fun f1 h1=>ih f1 (by omega)) s w b L ts h (by omega) (by omega) hl h5 h11
theorem bA{w X:World}(h:Lt w X)(o:Obj):Lt w (X.alloc o):=h.alloc h.size _
theorem bS{w X:World}(h:Lt w X)(a:Addr)(ha:w.heap.size<=a.block)(v:Value):Lt w (X.setCell a v):=h.setCell ha _
theorem bT{w X Y:World}(h:Lt w X)(k:Lt X Y):Lt w Y:=h.trans (k.mono h.size)
theorem bK{w X Y:World}{b:Nat}(h:Lt w X)(k:ai b X Y)(hb:w.heap.size<=b):Lt w Y:=h.trans (k.below hb h.size)
structure kV(w:World)(b:Nat):Prop where
 lt:b<w.heap.size
 bad:w.cell? ⟨b,2,none⟩=some (.bool true)
 thawed:w.frozen? ⟨b,2,none⟩=false
theorem kV.below{w w':World}{b:Nat}(h:kV w b)(hb:Lt w w'):kV w' b:=
 ⟨KV h.lt hb.size,(hb.cell h.lt).trans h.bad,(hb.frozen h.lt).trans h.thawed⟩
theorem kV.of{w:World}{b:Nat}{x y z:Value}{T:TypeId}(h:w.heap[b]?=some (.cells #[x,y,.bool true,z] T (0,0))):kV w b:=
 ⟨ag h,ae h 2,ar h 2⟩
theorem IP(w:World)(b:Nat)(x:Ls)(h:kV w b):
 Calls prog 106 #[.pointer (some ⟨b,0,none⟩),.int .i64 4,.string x] w fun e w'=>e=.returned (.bool false)/\Lt w w':=by
 go_enter func106,ntmps106;go_wp2_with fail;refine(xp w b h.lt h.bad).mono ?_;rintro e w1 ⟨rfl,hb1⟩;go_wp2_with fail;go_ret;exact⟨rfl,hb1.alloc hb1.size _⟩
theorem vw(w:World)(b:Nat)(x:Ls)(h:kV w b):
 Calls prog 67 #[.pointer (some ⟨b,0,none⟩),.int .i64 4,.string x] w fun e w'=>e=.returned (.bool false)/\Lt w w':=by
 go_enter func67,ntmps67;go_wp2_with fail;refine(IP w b x h).mono ?_;rintro e w1 ⟨rfl,hb1⟩;go_wp2_with fail;go_ret;exact⟨rfl,hb1⟩
theorem IC(w:World)(b:Nat)(x:Ls)(h:kV w b):
 Calls prog 70 #[.pointer (some ⟨b,0,none⟩),.int .i64 4,.string x] w fun e w'=>e=.returned (.tuple #[])/\kV w' b/\ai b w w':=by
 go_enter func70,ntmps70;go_wp2_with fail;refine(vw w b x h).mono ?_;rintro e w1 ⟨rfl,hb1⟩;obtain⟨h1,h2,h3⟩:=h.below hb1;go_wp2_with fail;go_end0;exact⟨rfl,⟨by simpa using h1,World.cell?_setCell_same _ _ _ h2,by simpa using h3⟩,(ai.of_below hb1).setCell 2 _⟩
theorem Gf(w:World)(b:Nat)(h:kV w b):
 Calls prog 155 #[.pointer (some ⟨b,0,none⟩)] w fun e w'=>e=.returned (.tuple #[.agg #[.int .i64 0,.int .i64 0,.string ⟨#[]⟩,.slice none 0 0],.bool false])/\Lt w w':=by
 have h':=h.below ((KL _ _).alloc (KK _) (.cells #[.int .i64 0,.int .i64 0,.string ⟨#[]⟩,.slice none 0 0] 119));go_enter func155,ntmps155;go_wp2_with fail;refine(xp _ b h'.lt h'.bad).mono ?_;rintro e w1 ⟨rfl,hb1⟩;have hR:=(hb1.block _ (by simp)).trans (KS w (.cells #[.int .i64 0,.int .i64 0,.string ⟨#[]⟩,.slice none 0 0] 119));have c:=ae hR;have f:=ar hR;have hl:=ag hR;have hB:=aa (show Lt w w1 from((KL _ _).alloc (KK _) _).trans (hb1.mono (by simp)));clear hR hb1 h';go_wp2_with fail;refine bodyPost_ret (v:=.tuple #[.agg #[.int .i64 0,.int .i64 0,.string ⟨#[]⟩,.slice none 0 0],.bool false]) (by simp[results,results155,go_sem,c,hl]) rfl ⟨rfl,?_⟩;repeat' with_reducible first|exact hB.o|refine bA ?_ _|refine bS ?_ _ (KK _) _
theorem Dt(w:World)(b:Nat)(h:kV w b):
 Calls prog 120 #[.pointer (some ⟨b,0,none⟩),.int .i64 0] w fun e w'=>e=.returned (.agg #[.int .i64 5,.int .i64 0,.string ⟨#[]⟩,.slice none 0 0])/\kV w' b/\ai b w w':=by
 have h':=h.below ((KL _ _).alloc (KK _) (.cells #[.int .i64 0,.int .i64 0,.string ⟨#[]⟩,.slice none 0 0] 119));go_enter func120,ntmps120;go_wp2_with fail;refine(Gf _ b h').mono ?_;rintro e w1 ⟨rfl,hb1⟩;have hR:=(hb1.block _ (by simp)).trans (KS w (.cells #[.int .i64 0,.int .i64 0,.string ⟨#[]⟩,.slice none 0 0] 119));have hl:=ag hR;have h1:=h'.below hb1;have hk1:ai b w w1:=ai.of_below (((KL _ _).alloc (KK _) _).trans (hb1.mono (by simp)));have hbl:=h.lt;clear hb1 h';go_wp2_with fail;refine(vw _ b _ (h1.below ((KL _ _).alloc (KK _) _))).mono ?_;rintro e w2 ⟨rfl,hb2⟩;go_wp2_with fail;refine(vw _ b _ ((h1.below ((KL _ _).alloc (KK _) _)).below hb2)).mono ?_;rintro e w3 ⟨rfl,hb3⟩;have hb:=((bA (KL w1.heap.size w1) _).trans (hb2.mono (by simp))).trans (hb3.mono (by have:=hb2.size;simp at this;omega));have hV3:=(hb3.block _ (by have:=hb2.size;simp at this;omega)).trans ((hb2.block _ (by simp)).trans (KS w1 (.cells #[.int .i64 0,.int .i64 0,.string ⟨#[]⟩,.slice none 0 0] 119)));have hR3:=(hb.block _ hl).trans hR;have h3:=h1.below hb;have hk3:=hk1.trans (ai.of_below hb);clear hb2 hb3 hb h1 hR hk1;go_wp2_with fail;refine(IC _ b _ h3).mono ?_;rintro e w4 ⟨rfl,h4,hk4⟩;have hR4:=hk4.at hR3 (by omega);have hV4:=hk4.at hV3 (by omega);have c:=ae hV4;have f:=ar hV4;have hl4:=ag hV4;have hl5:=ag hR4;have cb:=h4.bad;have K4:=aa (hk3.trans hk4);have H4:=aa h4;have HR:=aa hR4;have HV:=aa hV4;clear hR3 hV3 hk4 h4 h3 h hk3 hR4 hV4;go_wp2_with fail;go_loopg [6] 0 (fun k v6 wr=>kV wr b/\wr.heap[w1.heap.size]?=some (.cells #[.int .i64 5,.int .i64 0,.string ⟨#[]⟩,.slice none 0 0] 119 (0,0))/\wr.heap[w.heap.size]?=some (.cells #[.int .i64 0,.int .i64 0,.string ⟨#[]⟩,.slice none 0 0] 119 (0,0))/\ai b w wr)
 case atStart=>
  refine⟨⟨by simpa using H4.o.lt,?_,?_⟩,rD HV.o _ _ _ _,(fD _ _ _ (by omega) _ _ _ _).trans HR.o,?_⟩
  ·rw[World.cell?_of_block (fD _ _ _ (show b≠w1.heap.size by omega) _ _ _ _)];exact H4.o.bad
  ·have:=fD w4 w1.heap.size b (by omega) (.int .i64 5) (.int .i64 0) (.string ⟨#[]⟩) (.slice none 0 0)
   unfold World.frozen?;rw[this];exact H4.o.thawed
  ·repeat' with_reducible first|exact K4.o|refine ai.setNew ?_ _ (Nat.le_of_lt hl) _
 case round=>
  obtain⟨h5,hV,hR,hk⟩:=hrel;clear c f cb;have cb:=h5.bad;have c:=ae hV;have cR:=ae hR;have fR:=ar hR;have HK:=aa hk;have H5:=aa h5;clear hk hV hR h5 K4 H4 HR HV;go_wp2_with fail;refine bodyPost_ret (v:=.agg #[.int .i64 5,.int .i64 0,.string ⟨#[]⟩,.slice none 0 0]) (by simp[results,results120,go_sem,cR]) rfl ⟨rfl,⟨by simpa using H5.o.lt,?_,?_⟩,?_⟩
  ·rw[World.cell?_of_block (fD _ _ _ (show b≠w.heap.size by omega) _ _ _ _)];exact H5.o.bad
  ·have:=fD wr w.heap.size b (by omega) (.int .i64 5) (.int .i64 0) (.string ⟨#[]⟩) (.slice none 0 0)
   unfold World.frozen?;rw[this];exact H5.o.thawed
  ·repeat' with_reducible first|exact HK.o|refine ai.setNew ?_ _ (KK _) _
theorem GV:(bz 1603 0 none).2=none:=by
 rw[bz,K8 (by decide),K8 (by decide),K8 (by decide)];simp only[Nat.not_le.2 (show 0<10 by decide),if_false];rw[show ak none (af none 12)=none from rfl,mT]
def jV(x:Ls):Bool:=jv (bz 1603 0 (av x)).2
def du(x:Ls):RV:=(bz 1603 0 (av x)).1
theorem Dr(x:Ls)(w:World)(hs:x.size<=maxLen):
 Calls prog 85 #[.string x] w fun e w'=>∃v:FV,e=.returned (.tuple #[bw v,.bool (jV x)])/\Lt w w'/\(jV x=true->bI w' (fun g=>w.heap.size<=g/\g<w'.heap.size) 1603 v (du x)):=by
 have HCO:=aa (oc x);have HQ:=aa (jV.eq_1 x);have HV:=aa (du.eq_1 x);generalize jV x=q at*;generalize du x=v at*;have hc:=fun W=>zE x W hs;go_enter func85,ntmps85;go_wp2_with fail;refine(hc _).mono ?_;clear hc;rintro e w1 ⟨vL,fine,ts,rfl,hb1,LJ,hcut⟩;obtain⟨aL,MN,hvL⟩:=bc LJ;subst hvL;have hR:=(hb1.block _ (by simp)).trans (KS w (.cells #[.int .i64 0,.int .i64 0,.string ⟨#[]⟩,.slice none 0 0] 119));have hl:=ag hR;have HR:=aa hR;have HB:=aa ((bA (KL w.heap.size w) (.cells #[.int .i64 0,.int .i64 0,.string ⟨#[]⟩,.slice none 0 0] 119)).trans (hb1.mono (by simp)));have Mq:=aa LJ;clear hR hb1 LJ;cases fine
 ·simp only[Lj,if_false]at hcut
  have HF:=aa (show q=false from by rw[HQ.o,hcut,GV];rfl);clear hcut;go_wp2_with fail;have hX:=KS w1 (.cells #[.slice aL ts.length MN,.int .i64 0,.bool true,.int .i64 0] 89);refine(Dt _ _ (.of hX)).mono ?_;rintro e w2 ⟨rfl,h2,hk2⟩;have HR2:=aa (hk2.at ((bp _ _ _ hl).trans HR.o) (by omega));go_wp2_with fail;refine(uZ _ _ (h2.below (bA (KL _ _) _)).bad).mono ?_;rintro e w3 ⟨rfl,hb3⟩;have hR3:=(hb3.block _ (by have:=ag HR2.o;simp;omega)).trans ((bp _ _ _ (ag HR2.o)).trans HR2.o);have hV3:=(hb3.block _ (by simp)).trans (KS w2 (.cells #[.int .i64 5,.int .i64 0,.string ⟨#[]⟩,.slice none 0 0] 119));have c:=ae hR3;have f:=ar hR3;have hl3:=ag hR3;have cv:=ae hV3;have hB3:=aa (bT (bA (bK (bA HB.o _) hk2 (Nat.le_of_lt hl)) _) hb3);clear hR3 hb3 hk2 h2 hV3;go_wp2_with fail;refine bodyPost_ret (v:=.tuple #[bw ⟨5,0,⟨#[]⟩,none,0,0⟩,.bool q]) (by rw[HF.o];simp[results,results85,go_sem,c,bw]) rfl ⟨_,rfl,?_,fun e=>by rw[HF.o]at e;cases e⟩;repeat' with_reducible first|exact hB3.o|refine bA ?_ _|refine bS ?_ _ (KK _) _
 ·simp only[if_true]at hcut
  obtain⟨hwf,Me⟩:=HCO.o ts hcut;have hX:=KS w1 (.cells #[.slice aL ts.length MN,.int .i64 0,.bool false,.int .i64 0] 89);have hr:RS (w1.alloc (.cells #[.slice aL ts.length MN,.int .i64 0,.bool false,.int .i64 0] 89)) w1.heap.size (.slice aL ts.length MN) ts (av x):=
   ⟨⟨0,false,hX,KU _,by rw[hcut];rfl⟩,bZ (iJ Mq.o (KU _)) (bA (KL _ _) _),Me,hwf⟩
  have hc:=GX 1603 0 _ _ _ _ _ hr (by have:=hr.lnle;omega) (by decide);rw[show(bz 1603 0 (av x)).1=v from HV.o.symm]at hc;generalize hs2:(bz 1603 0 (av x)).2=s2 at*;clear hs2 hr hX hwf hcut HCO HV;go_wp2_with fail;refine hc.mono ?_;clear hc;rintro e w2 ⟨fv,rfl,hv,hr2,hk2⟩;have HR2:=aa (hk2.at ((bp _ _ _ hl).trans HR.o) (by omega));have HVV:=aa (hv.frame (fun _ _ _=>rfl) (fun g hg=>show w.heap.size+1<=g/\g<w2.heap.size from⟨by have:=hg.1;simp at this;omega,hg.2⟩));have hd:=fun o=>BH _ _ _ _ _ (hr2.below (bA (KL _ _) o));rw[<-HQ.o]at hd;have hw2:=hr2.lt;have HFV:=aa (show bw fv=.agg #[.int .i64 fv.sh,.int .i64 fv.n,.string fv.s,.slice fv.la fv.ln fv.lc]from rfl);rw[HFV.o];clear HQ hr2 hv;go_wp2_with fail;refine(hd _).mono ?_;clear hd;rintro e w3 ⟨rfl,hb3⟩;have hR3:=(hb3.block _ (by have:=ag HR2.o;simp;omega)).trans ((bp _ _ _ (ag HR2.o)).trans HR2.o);have hV3:=(hb3.block _ (by simp)).trans (KS w2 (.cells #[.int .i64 fv.sh,.int .i64 fv.n,.string fv.s,.slice fv.la fv.ln fv.lc] 119));have c:=ae hR3;have f:=ar hR3;have hl3:=ag hR3;have cv:=ae hV3;have hB3:=aa (bT (bA (bK (bA HB.o _) hk2 (Nat.le_of_lt hl)) _) hb3);have HVV3:=aa (HVV.o.frame (B':=fun g=>w.heap.size<g/\g<w3.heap.size) (fun g hg o=>(bT (bA (KL w2.heap.size w2) _) hb3).cell (p:=⟨g,o,none⟩) hg.2) (fun g hg=>⟨hg.1,by have:=(bT (bA (KL w2.heap.size w2) _) hb3).size;omega⟩));clear hR3 hb3 hk2 hV3 HVV;go_wp2_with fail;refine bodyPost_ret (v:=.tuple #[bw fv,.bool q]) (by simp[results,results85,go_sem,c,bw]) rfl ⟨fv,rfl,?_,fun _=>HVV3.o.frame (fun g hg o=>World.cell?_of_block (a:=⟨g,o,none⟩) (fD _ _ g (by omega) _ _ _ _)) (fun g hg=>⟨Nat.le_of_lt hg.1,by simpa using hg.2⟩)⟩;repeat' with_reducible first|exact hB3.o|refine bA ?_ _|refine bS ?_ _ (KK _) _
end Go.Proofs.YtgbloieahmkcjaaGreat
