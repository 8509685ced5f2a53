import Derived.Test.YtgbloieahmkcjaaGreatC06
import Derived.Deep.DeepCutAuto
namespace Go.Proofs.YtgbloieahmkcjaaGreat
set_option maxHeartbeats 20000000
set_option maxRecDepth 100000
open Go.RowKit Tryz
theorem uV:∀(f:Nat) (s:St) (a h:Ls),ln s<=f->dJ f s a h=dJ (ln s) s a h:=by
 intro f
 induction f using Nat.strongRecOn with
 |_ f ih=>
  intro s a h hl
  match f,s,hl with
  |f,none,hl=>
   match f with
   |0=>rfl
   |f+1=>simp only[dJ,eP 11 (by decide),ln];rfl
  |0,some l,hl=>simp[ln]at hl
  |f+1,some l,hl=>
   show dJ (f+1) (some l) a h=dJ (l.length+1) (some l) a h;have hl':l.length<=f:=by simpa [ln]using hl
   simp only[dJ];by_cases h11:af (some l) 11=true
   ·rw[K9 h11,K9 h11]
    have h0:=eY (some l) 11 (by decide) h11;have key:∀q x y,ln q<=l.length->dJ f q x y=dJ l.length q x y:=fun q x y hq=>by
     rw[ih f (by omega) q x y (by omega)];by_cases e:l.length=f
     ·rw[e,ih f (by omega) q x y (by omega)]
     ·rw[ih l.length (by omega) q x y hq]
    have b1:=cg (ab (ak (ab (tl (some l))) (af (ab (tl (some l))) 7))) (af (ab (ak (ab (tl (some l))) (af (ab (tl (some l))) 7))) 8);have b2:=bH (ak (ab (tl (some l))) (af (ab (tl (some l))) 7));have b3:=cg (ab (tl (some l))) (af (ab (tl (some l))) 7);have b4:=bH (tl (some l));have b5:ln (some l)=l.length+1:=rfl;rw[key _ _ _ (by omega),key _ _ _ (by omega)]
   ·rw[K8 h11,K8 h11]
theorem xW(s:St)(a h:Ls)(h11:af s 11=false):dJ (ln s) s a h=((a,h),s):=by
 match s with
 |none=>rfl
 |some l=>show dJ (l.length+1) (some l) a h=_;simp only[dJ,h11];rfl
theorem Eb(s:St)(a h:Ls)(h11:af s 11=true):∃s1 s2 s3 s4 s5,s1=tl s/\s2=ab s1/\s3=ak s2 (af s2 7)/\s4=ab s3/\s5=ak s4 (af s4 8)/\ln s5<ln s/\
 dJ (ln s) s a h=(if nm s1=mh/\a=bE then dJ (ln s5) s5 (nm s3) h else if nm s1=nz/\h=bE then dJ (ln s5) s5 a (nm s3)else((a,h),none)):=by
 have h0:=eY s 11 (by decide) h11;have b1:=cg (ab (ak (ab (tl s)) (af (ab (tl s)) 7))) (af (ab (ak (ab (tl s)) (af (ab (tl s)) 7))) 8);have b2:=bH (ak (ab (tl s)) (af (ab (tl s)) 7));have b3:=cg (ab (tl s)) (af (ab (tl s)) 7);have b4:=bH (tl s);refine⟨_,_,_,_,_,rfl,rfl,rfl,rfl,rfl,by omega,?_⟩
 match s,h11,h0,b1,b2,b3,b4 with
 |none,h11,_,_,_,_,_=>rw[eP 11 (by decide)]at h11;cases h11
 |some l,h11,h0,b1,b2,b3,b4=>
  have e:ln (some l)=l.length+1:=rfl;rw[e]at h0⊢;simp only[dJ];rw[K9 h11,uV l.length _ _ _ (by omega),uV l.length _ _ _ (by omega)]
theorem yP(y a:Ls)(l:List UInt8)(h:(y.toList==l&&a.toList.isEmpty)=true):y=aE l/\a=bE:=by
 rw[bV]at h;simp only[Li,Lc,List.isEmpty_iff]at h;refine⟨h.1,?_⟩;apply ByteArray.ext;apply Array.toList_inj.1;rw[<-Lib.toList_data,h.2];rfl
theorem pg(y a:Ls)(l:List UInt8)(h:(y.toList==l&&a.toList.isEmpty)=false):¬(y=aE l/\a=bE):=by
 rintro⟨rfl,rfl⟩;rw[bV]at h;simp[Lib.toList_data,bE]at h
theorem Dd(a t:Ls):jR a t=((!(a.toList==[105,100])||!(t.toList==[73,68]))&&(!(a.toList==[102,105,114,115,116])||!(t.toList==[73,110,116]))):=by
 unfold jR;rw[bV,bV,bV,bV];rfl
theorem JQ(w:World)(b:Nat)(L:Value)(ts:List Tk)(s:St)(h:RS w b L ts s):
 Calls prog 72 #[.pointer (some ⟨b,0,none⟩)] w fun e w'=>e=.returned (.agg (sk (eh s).1))/\RS w' b L ts (eh s).2/\ai b w w':=by
 have hlt:=h.lt;have hr0:RS ((w.alloc (.cells #[.string ⟨#[]⟩,.string ⟨#[]⟩,.string ⟨#[]⟩,.string ⟨#[]⟩,.string ⟨#[]⟩] 121)).alloc (.cells #[.string ⟨#[]⟩,.string ⟨#[]⟩,.string ⟨#[]⟩,.string ⟨#[]⟩,.string ⟨#[]⟩] 121)) b L ts s:=h.below (di _ _ _);have HR0:=aa (ig w (.cells #[.string ⟨#[]⟩,.string ⟨#[]⟩,.string ⟨#[]⟩,.string ⟨#[]⟩,.string ⟨#[]⟩] 121) (.cells #[.string ⟨#[]⟩,.string ⟨#[]⟩,.string ⟨#[]⟩,.string ⟨#[]⟩,.string ⟨#[]⟩] 121));have HF0:=aa (eo w (.cells #[.string ⟨#[]⟩,.string ⟨#[]⟩,.string ⟨#[]⟩,.string ⟨#[]⟩,.string ⟨#[]⟩] 121) (.cells #[.string ⟨#[]⟩,.string ⟨#[]⟩,.string ⟨#[]⟩,.string ⟨#[]⟩,.string ⟨#[]⟩] 121));have hK0:ai b w ((w.alloc (.cells #[.string ⟨#[]⟩,.string ⟨#[]⟩,.string ⟨#[]⟩,.string ⟨#[]⟩,.string ⟨#[]⟩] 121)).alloc (.cells #[.string ⟨#[]⟩,.string ⟨#[]⟩,.string ⟨#[]⟩,.string ⟨#[]⟩,.string ⟨#[]⟩] 121)):=ai.of_below (di _ _ _);clear h;go_enter func72,ntmps72;go_wp2_with fail;generalize (w.alloc (.cells #[.string ⟨#[]⟩,.string ⟨#[]⟩,.string ⟨#[]⟩,.string ⟨#[]⟩,.string ⟨#[]⟩] 121)).alloc (.cells #[.string ⟨#[]⟩,.string ⟨#[]⟩,.string ⟨#[]⟩,.string ⟨#[]⟩,.string ⟨#[]⟩] 121)=w0 at*;refine(iX w0 b L ts s hr0).mono ?_;rintro e w1 ⟨rfl,hr1,hk1⟩;have HF1:=aa (hk1.at HF0.o (by omega));have HR1:=aa (hk1.at HR0.o (by omega));have hK1:=hK0.trans hk1;clear HF0 HR0 hK0 hr0 hk1;have c0:w1.cell? ⟨w.heap.size+1,0,none⟩=some (.string ⟨#[]⟩):=ae HF1.o 0;have cf:=ar HF1.o 0;go_wp2_with fail;have hr2:=hr1.set HF1.o (by decide) (by decide) 0 (.string (nm s));have HF2:=aa (show(w1.setCell ⟨w.heap.size+1,0,none⟩ (.string (nm s))).heap[w.heap.size+1]?=some (.cells #[.string (nm s),.string ⟨#[]⟩,.string ⟨#[]⟩,.string ⟨#[]⟩,.string ⟨#[]⟩] 121 (0,0))from aJ HF1.o 0 _);have HR2:=aa (show(w1.setCell ⟨w.heap.size+1,0,none⟩ (.string (nm s))).heap[w.heap.size]?=some (.cells #[.string ⟨#[]⟩,.string ⟨#[]⟩,.string ⟨#[]⟩,.string ⟨#[]⟩,.string ⟨#[]⟩] 121)from by rw[KX _ _ _ _ (by simp)];exact HR1.o);have hK2:=hK1.setNew ⟨w.heap.size+1,0,none⟩ (by simp) (.string (nm s));clear c0 cf HF1 HR1 hK1 hr1;generalize w1.setCell ⟨w.heap.size+1,0,none⟩ (.string (nm s))=w2 at*;refine(gI w2 b L ts (ab s) 7 ⟨#[40]⟩ rfl (by decide) (by decide) hr2).mono ?_;rintro e w3 ⟨rfl,hr3,hk3⟩;have HF3:=aa (hk3.at HF2.o (by omega));have HR3:=aa (hk3.at HR2.o (by omega));have hK3:=hK2.trans hk3;clear HF2 HR2 hK2 hr2 hk3
 go_upto_if 14 with fail
 go_cut [4] (fun v wc=>∃(y:Ls) (s7:St),RS wc b L ts s7/\wc.heap[w.heap.size+1]?=some (.cells #[.string (nm s),.string y,.string ⟨#[]⟩,.string ⟨#[]⟩,.string ⟨#[]⟩] 121 (0,0))/\wc.heap[w.heap.size]?=some (.cells #[.string ⟨#[]⟩,.string ⟨#[]⟩,.string ⟨#[]⟩,.string ⟨#[]⟩,.string ⟨#[]⟩] 121)/\ai b w wc/\jt (ab s)=(y,s7))
 case first=>
  cases h7:af (ab s) 7
  ·have HX:=aa (show jt (ab s)=(bE,ab s)from by unfold jt;rw[h7];rfl)
   rw[h7]at hr3;clear h7;go_wp2_with fail;go_meet;exact⟨_,_,hr3,HF3.o,HR3.o,hK3,HX.o⟩
  ·rw[h7]at hr3
   have hr3:RS w3 b L ts (tl (ab s)):=hr3;have HA7:=aa h7;clear h7;generalize hs2:tl (ab s)=s2 at*;have HS2:=aa hs2;clear hs2;go_wp2_with fail;refine(iX w3 b L ts s2 hr3).mono ?_;rintro e w4 ⟨rfl,hr4,hk4⟩;have HF4:=aa (hk4.at HF3.o (by omega));have HR4:=aa (hk4.at HR3.o (by omega));have hK4:=hK3.trans hk4;clear HF3 HR3 hK3 hr3 hk4;have c0:w4.cell? ⟨w.heap.size+1,1,none⟩=some (.string ⟨#[]⟩):=ae HF4.o 1;have cf:=ar HF4.o 1;go_wp2_with fail;have hr5:=hr4.set HF4.o (by decide) (by decide) 1 (.string (nm s2));have HF5:=aa (show(w4.setCell ⟨w.heap.size+1,1,none⟩ (.string (nm s2))).heap[w.heap.size+1]?=some (.cells #[.string (nm s),.string (nm s2),.string ⟨#[]⟩,.string ⟨#[]⟩,.string ⟨#[]⟩] 121 (0,0))from aJ HF4.o 1 _);have HR5:=aa (show(w4.setCell ⟨w.heap.size+1,1,none⟩ (.string (nm s2))).heap[w.heap.size]?=some (.cells #[.string ⟨#[]⟩,.string ⟨#[]⟩,.string ⟨#[]⟩,.string ⟨#[]⟩,.string ⟨#[]⟩] 121)from by rw[KX _ _ _ _ (by simp)];exact HR4.o);have hK5:=hK4.setNew ⟨w.heap.size+1,1,none⟩ (by simp) (.string (nm s2));clear c0 cf HF4 HR4 hK4 hr4;generalize w4.setCell ⟨w.heap.size+1,1,none⟩ (.string (nm s2))=w5 at*;refine(gQ w5 b L ts (ab s2) 9 ⟨#[58]⟩ rfl (by decide) (by decide) hr5).mono ?_;rintro e w6 ⟨rfl,hr6,hk6⟩;have HF6:=aa (hk6.at HF5.o (by omega));have HR6:=aa (hk6.at HR5.o (by omega));have hK6:=hK5.trans hk6;clear HF5 HR5 hK5 hr5 hk6;generalize hs4:ak (ab s2) (af (ab s2) 9)=s4 at*;have HS4:=aa hs4;clear hs4;go_wp2_with fail;refine(iX w6 b L ts s4 hr6).mono ?_;rintro e w7 ⟨rfl,hr7,hk7⟩;have HF7:=aa (hk7.at HF6.o (by omega));have HR7:=aa (hk7.at HR6.o (by omega));have hK7:=hK6.trans hk7;clear HF6 HR6 hK6 hr6 hk7;have c0:w7.cell? ⟨w.heap.size+1,1,none⟩=some (.string (nm s2)):=ae HF7.o 1;have HS:=aa (show jt (ab s)=(nm s2,ak (if jR (nm s2) (nm s4)=true then none else ab s4) (af (if jR (nm s2) (nm s4)=true then none else ab s4) 8))from by unfold jt;rw[HA7.o];simp only[if_true];rw[HS2.o,HS4.o]);clear HA7 HS2 HS4;have hba:=Dd (nm s2) (nm s4);generalize hy2:nm s2=y2 at*;generalize hy4:nm s4=y4 at*;clear hy2 hy4;have HBA:=aa hba;clear hba;cases t1:(y2.toList==[105,100])
   ·cases t2:(y2.toList==[102,105,114,115,116])
    ·have MA:jR y2 y4=true:=by rw[HBA.o,t1,t2];rfl
     rw[MA]at HS;clear MA HBA;obtain⟨⟨q,cq⟩,fq,hn⟩:=hr7.fail;have HF8:=aa (dG HF7.o (show w.heap.size+1≠b by omega) 2 (.bool true));have HR8:=aa (dG HR7.o (show w.heap.size≠b by omega) 2 (.bool true));have hK8:=hK7.setCell 2 (.bool true);have hr8:=hn;clear hn;go_wp2_with fail;clear c0 cq fq HF7 HR7 hK7 hr7;generalize w7.setCell ⟨b,2,none⟩ (.bool true)=w8 at*;refine(gQ w8 b L ts none 8 ⟨#[41]⟩ rfl (by decide) (by decide) hr8).mono ?_;rintro e w9 ⟨rfl,hr9,hk9⟩;have HF9:=aa (hk9.at HF8.o (by omega));have HR9:=aa (hk9.at HR8.o (by omega));have hK9:=hK8.trans hk9;clear HF8 HR8 hK8 hr8 hk9;go_wp2_with fail;go_meet;exact⟨_,_,hr9,HF9.o,HR9.o,hK9,HS.o⟩
    ·cases t3:(y4.toList==[73,110,116])
     ·have MA:jR y2 y4=true:=by rw[HBA.o,t1,t2,t3];rfl
      rw[MA]at HS;clear MA HBA;obtain⟨⟨q,cq⟩,fq,hn⟩:=hr7.fail;have HF8:=aa (dG HF7.o (show w.heap.size+1≠b by omega) 2 (.bool true));have HR8:=aa (dG HR7.o (show w.heap.size≠b by omega) 2 (.bool true));have hK8:=hK7.setCell 2 (.bool true);have hr8:=hn;clear hn;go_wp2_with fail;clear c0 cq fq HF7 HR7 hK7 hr7;generalize w7.setCell ⟨b,2,none⟩ (.bool true)=w8 at*;refine(gQ w8 b L ts none 8 ⟨#[41]⟩ rfl (by decide) (by decide) hr8).mono ?_;rintro e w9 ⟨rfl,hr9,hk9⟩;have HF9:=aa (hk9.at HF8.o (by omega));have HR9:=aa (hk9.at HR8.o (by omega));have hK9:=hK8.trans hk9;clear HF8 HR8 hK8 hr8 hk9;go_wp2_with fail;go_meet;exact⟨_,_,hr9,HF9.o,HR9.o,hK9,HS.o⟩
     ·have MA:jR y2 y4=false:=by rw[HBA.o,t1,t2,t3];rfl
      rw[MA]at HS;clear MA HBA;go_wp2_with fail;clear c0;refine(gQ w7 b L ts (ab s4) 8 ⟨#[41]⟩ rfl (by decide) (by decide) hr7).mono ?_;rintro e w8 ⟨rfl,hr8,hk8⟩;have HF8:=aa (hk8.at HF7.o (by omega));have HR8:=aa (hk8.at HR7.o (by omega));have hK8:=hK7.trans hk8;clear HF7 HR7 hK7 hr7 hk8;go_wp2_with fail;go_meet;exact⟨_,_,hr8,HF8.o,HR8.o,hK8,HS.o⟩
   ·have t2:(y2.toList==[102,105,114,115,116])=false:=by rw[bV]at t1⊢;simp only[Lc]at t1;rw[t1];decide
    cases t3:(y4.toList==[73,68])
    ·have MA:jR y2 y4=true:=by rw[HBA.o,t1,t2,t3];rfl
     rw[MA]at HS;clear MA HBA;obtain⟨⟨q,cq⟩,fq,hn⟩:=hr7.fail;have HF8:=aa (dG HF7.o (show w.heap.size+1≠b by omega) 2 (.bool true));have HR8:=aa (dG HR7.o (show w.heap.size≠b by omega) 2 (.bool true));have hK8:=hK7.setCell 2 (.bool true);have hr8:=hn;clear hn;go_wp2_with fail;clear c0 cq fq HF7 HR7 hK7 hr7;generalize w7.setCell ⟨b,2,none⟩ (.bool true)=w8 at*;refine(gQ w8 b L ts none 8 ⟨#[41]⟩ rfl (by decide) (by decide) hr8).mono ?_;rintro e w9 ⟨rfl,hr9,hk9⟩;have HF9:=aa (hk9.at HF8.o (by omega));have HR9:=aa (hk9.at HR8.o (by omega));have hK9:=hK8.trans hk9;clear HF8 HR8 hK8 hr8 hk9;go_wp2_with fail;go_meet;exact⟨_,_,hr9,HF9.o,HR9.o,hK9,HS.o⟩
    ·have MA:jR y2 y4=false:=by rw[HBA.o,t1,t2,t3];rfl
     rw[MA]at HS;clear MA HBA;go_wp2_with fail;clear c0;refine(gQ w7 b L ts (ab s4) 8 ⟨#[41]⟩ rfl (by decide) (by decide) hr7).mono ?_;rintro e w8 ⟨rfl,hr8,hk8⟩;have HF8:=aa (hk8.at HF7.o (by omega));have HR8:=aa (hk8.at HR7.o (by omega));have hK8:=hK7.trans hk8;clear HF7 HR7 hK7 hr7 hk8;go_wp2_with fail;go_meet;exact⟨_,_,hr8,HF8.o,HR8.o,hK8,HS.o⟩
 case rest=>
  clear HF3 HR3 hK3 hr3;obtain⟨y,s7,hr90,hF,hR,hK90,hs7⟩:=hcut;have HF90:=aa hF;have HR90:=aa hR;have HS:=aa (show(jt (ab s)).2=s7 from by rw[hs7]);have HARG:=aa (show(jt (ab s)).1=y from by rw[hs7]);clear hF hR hs7;obtain⟨w90,hw90⟩:∃w90,w90=wc:=⟨_,rfl⟩;subst hw90;go_wp2_with fail;refine(gQ w90 b L ts (s7) 9 ⟨#[58]⟩ rfl (by decide) (by decide) hr90).mono ?_;rintro e qJ ⟨rfl,hr91,hk91⟩;have HF91:=aa (hk91.at HF90.o (by omega));have HR91:=aa (hk91.at HR90.o (by omega));have hK91:=hK90.trans hk91;clear HF90 HR90 hK90 hr90 hk91;have HP8:=aa (show ak (s7) (af (s7) 9)=ak (jt (ab s)).2 (af (jt (ab s)).2 9)from by rw[HS.o]);generalize ak (s7) (af (s7) 9)=s8 at*;go_wp2_with fail;refine(ID 801 qJ b L ts s8 hr91.lnle (by decide) hr91).mono ?_;rintro e w92 ⟨rfl,hr92,hk92,hz⟩;have HF92:=aa (hk92.at HF91.o (by omega));have HR92:=aa (hk92.at HR91.o (by omega));have hK92:=hK91.trans hk92;clear HF91 HR91 hK91 hr91 hk92;generalize hty:fP 801 s8=ty at*;have HTY:=aa hty;clear hty hz;have c0:w92.cell? ⟨w.heap.size+1,2,none⟩=some (.string ⟨#[]⟩):=ae HF92.o 2;have cf:=ar HF92.o 2;go_wp2_with fail;have hr93:=hr92.set HF92.o (by decide) (by decide) 2 (.string ty.1);have HF93:=aa (show(w92.setCell ⟨w.heap.size+1,2,none⟩ (.string ty.1)).heap[w.heap.size+1]?=some (.cells #[.string (nm s),.string y,.string ty.1,.string ⟨#[]⟩,.string ⟨#[]⟩] 121 (0,0))from aJ HF92.o 2 _);have HR93:=aa (show(w92.setCell ⟨w.heap.size+1,2,none⟩ (.string ty.1)).heap[w.heap.size]?=some (.cells #[.string ⟨#[]⟩,.string ⟨#[]⟩,.string ⟨#[]⟩,.string ⟨#[]⟩,.string ⟨#[]⟩] 121)from by rw[KX _ _ _ _ (by simp)];exact HR92.o);have hK93:=hK92.setNew ⟨w.heap.size+1,2,none⟩ (by simp) (.string ty.1);clear c0 cf HF92 HR92 hK92 hr92;generalize w92.setCell ⟨w.heap.size+1,2,none⟩ (.string ty.1)=AS at*;have hln:=hr93.lnle;go_loopg [4] (ln ty.2) (fun k v wr=>∃(a h:Ls) (s':St),ln s'<=k/\RS wr b L ts s'/\wr.heap[w.heap.size+1]?=some (.cells #[.string (nm s),.string y,.string ty.1,.string a,.string h] 121 (0,0))/\wr.heap[w.heap.size]?=some (.cells #[.string ⟨#[]⟩,.string ⟨#[]⟩,.string ⟨#[]⟩,.string ⟨#[]⟩,.string ⟨#[]⟩] 121)/\ai b w wr/\dJ 801 ty.2 bE bE=dJ (ln s') s' a h)
  case atStart=>exact⟨⟨#[]⟩,⟨#[]⟩,ty.2,KK _,hr93,HF93.o,HR93.o,hK93,uV _ _ _ _ hln⟩
  case round=>
   clear hr93 HF93 HR93 hK93 hln;obtain⟨a,h,s',hlk,hr,hF,hR,hK,hrel⟩:=hrel;have HF:=aa hF;have HR:=aa hR;have HM:=aa hrel;have c2:=hr.badc;clear hF hR hrel;have fin:∀(wz:World),ai b w wz->wz.heap[w.heap.size+1]?=some (.cells #[.string (nm s),.string y,.string ty.1,.string a,.string h] 121 (0,0))->wz.heap[w.heap.size]?=some (.cells #[.string ⟨#[]⟩,.string ⟨#[]⟩,.string ⟨#[]⟩,.string ⟨#[]⟩,.string ⟨#[]⟩] 121)->∀sz,RS wz b L ts sz->RS ((((((wz.setCell ⟨w.heap.size,0,none⟩ (.string (nm s))).setCell ⟨w.heap.size,1,none⟩ (.string y)).setCell ⟨w.heap.size,2,none⟩ (.string ty.1)).setCell ⟨w.heap.size,3,none⟩ (.string a)).setCell ⟨w.heap.size,4,none⟩ (.string h))) b L ts sz/\ai b w ((((((wz.setCell ⟨w.heap.size,0,none⟩ (.string (nm s))).setCell ⟨w.heap.size,1,none⟩ (.string y)).setCell ⟨w.heap.size,2,none⟩ (.string ty.1)).setCell ⟨w.heap.size,3,none⟩ (.string a)).setCell ⟨w.heap.size,4,none⟩ (.string h))):=fun wz q1 _ q3 sz q4=>by
    refine⟨((((q4.set q3 (by decide) (by decide) 0 _).set (aJ q3 0 _) (by decide) (by decide) 1 _).set (aJ (aJ q3 0 _) 1 _) (by decide) (by decide) 2 _).set (aJ (aJ (aJ q3 0 _) 1 _) 2 _) (by decide) (by decide) 3 _).set (aJ (aJ (aJ (aJ q3 0 _) 1 _) 2 _) 3 _) (by decide) (by decide) 4 _,((((q1.setNew _ (KK _) _).setNew _ (KK _) _).setNew _ (KK _) _).setNew _ (KK _) _).setNew _ (KK _) _⟩
   have FIN:=aa fin;clear fin;cases hnn:s'.isNone
   ·rw[hnn]at c2
    cases h11:af s' 11
    ·have HM2:=aa (xW s' a h h11)
     have hm:=gI wr b L ts s' 11 ⟨#[64]⟩ rfl (by decide) (by decide) hr;rw[h11]at hm;clear h11 hnn;go_wp2_with fail;refine hm.mono ?_;clear hm;rintro e v1 ⟨rfl,hr1,hk1⟩;have hr1:RS v1 b L ts s':=hr1;have hF1:=hk1.at HF.o (by omega);have hR1:=hk1.at HR.o (by omega);have hK1:=hK.trans hk1;have p0:v1.cell? ⟨w.heap.size+1,0,none⟩=some (.string (nm s)):=ae hF1 0;have r0:v1.cell? ⟨w.heap.size,0,none⟩=some (.string ⟨#[]⟩):=ae hR1 0;have p1:v1.cell? ⟨w.heap.size+1,1,none⟩=some (.string y):=ae hF1 1;have r1:v1.cell? ⟨w.heap.size,1,none⟩=some (.string ⟨#[]⟩):=ae hR1 1;have p2:v1.cell? ⟨w.heap.size+1,2,none⟩=some (.string ty.1):=ae hF1 2;have r2:v1.cell? ⟨w.heap.size,2,none⟩=some (.string ⟨#[]⟩):=ae hR1 2;have p3:v1.cell? ⟨w.heap.size+1,3,none⟩=some (.string a):=ae hF1 3;have r3:v1.cell? ⟨w.heap.size,3,none⟩=some (.string ⟨#[]⟩):=ae hR1 3;have p4:v1.cell? ⟨w.heap.size+1,4,none⟩=some (.string h):=ae hF1 4;have r4:v1.cell? ⟨w.heap.size,4,none⟩=some (.string ⟨#[]⟩):=ae hR1 4;have rf:∀j,v1.frozen? ⟨w.heap.size,j,none⟩=false:=fun j=>ar hR1 j;have HZ:=aa (FIN.o v1 hK1 hF1 hR1 s' hr1);clear hF1 hR1 FIN HF HR;go_wp2_with fail;have Mf:=aa (show eh s=(⟨nm s,y,ty.1,a,h⟩,s')from by unfold eh;simp only[<-HP8.o,HTY.o,HM.o,HM2.o,HARG.o];try rfl);refine bodyPost_ret (v:=.agg #[.string (nm s),.string y,.string ty.1,.string a,.string h]) (by simp[results,results72,go_sem,r0,r1,r2,r3,r4]) rfl ⟨by rw[Mf.o];rfl,by rw[Mf.o];exact HZ.o.1,HZ.o.2⟩
    ·obtain⟨s1,s2,s3,s4,s5,e1,e2,e3,e4,e5,hl5,hy⟩:=Eb s' a h h11
     have HY:=aa hy;have HE:=aa (And.intro e1 (And.intro e2 (And.intro e3 (And.intro e4 e5))));have hm:=gI wr b L ts s' 11 ⟨#[64]⟩ rfl (by decide) (by decide) hr;rw[h11]at hm;clear h11 hnn hy e1 e2 e3 e4 e5;go_wp2_with fail;refine hm.mono ?_;clear hm;rintro e v1 ⟨rfl,hr1,hk1⟩;have hr1:RS v1 b L ts s1:=by rw[HE.o.1];exact hr1
     go_wp2_with fail;refine(iX v1 b L ts s1 hr1).mono ?_;rintro e v2 ⟨rfl,hr2,hk2⟩;rw[<-HE.o.2.1]at hr2;go_wp2_with fail;refine(gQ v2 b L ts s2 7 ⟨#[40]⟩ rfl (by decide) (by decide) hr2).mono ?_;rintro e v3 ⟨rfl,hr3,hk3⟩;rw[<-HE.o.2.2.1]at hr3;go_wp2_with fail;refine(iX v3 b L ts s3 hr3).mono ?_;rintro e v4 ⟨rfl,hr4,hk4⟩;rw[<-HE.o.2.2.2.1]at hr4;go_wp2_with fail;refine(gQ v4 b L ts s4 8 ⟨#[41]⟩ rfl (by decide) (by decide) hr4).mono ?_;rintro e v5 ⟨rfl,hr5,hk5⟩;rw[<-HE.o.2.2.2.2]at hr5;have hkk:=(((hk1.trans hk2).trans hk3).trans hk4).trans hk5;have hF5:=hkk.at HF.o (by omega);have HF5:=aa hF5;have HR5:=aa (hkk.at HR.o (by omega));have hK5:=hK.trans hkk;clear hr hr1 hr2 hr3 hr4 hk1 hk2 hk3 hk4 hk5 hkk HF HR hK c2 hF5 FIN;have a3:v5.cell? ⟨w.heap.size+1,3,none⟩=some (.string a):=ae HF5.o 3;have a4:v5.cell? ⟨w.heap.size+1,4,none⟩=some (.string h):=ae HF5.o 4;have af3:=ar HF5.o 3;have af4:=ar HF5.o 4;generalize nm s1=y1 at*;generalize nm s3=y3 at*;cases tA:(y1.toList==[97,117,116,104])
     ·have t1:=aa (show(y1.toList==[97,117,116,104]&&a.toList.isEmpty)=false from by rw[tA];rfl)
      cases tH:(y1.toList==[104,105,100,101])
      ·have t2:=aa (show(y1.toList==[104,105,100,101]&&h.toList.isEmpty)=false from by rw[tH];rfl)
       have HB:=aa (show dJ 801 ty.2 bE bE=dJ (ln none) none a h from by
        rw[HM.o,HY.o,K8 (show¬(y1=mh/\a=bE)from pg y1 a _ t1.o),K8 (show¬(y1=nz/\h=bE)from pg y1 h _ t2.o)];rfl)
       obtain⟨⟨q,cq⟩,fq,hn⟩:=hr5.fail;have hF6:=dG HF5.o (show w.heap.size+1≠b by omega) 2 (.bool true);have hR6:=dG HR5.o (show w.heap.size≠b by omega) 2 (.bool true);have hK6:=hK5.setCell 2 (.bool true);have HX:=aa (And.intro hF6 (And.intro hR6 (And.intro hK6 hn)));clear hF6 hR6 hK6 hn;go_wp2_with fail;go_roundg (ln (none:St))
       case measure=>simp only[ln]at*;omega
       case rel=>exact⟨a,h,none,KK _,HX.o.2.2.2,HX.o.1,HX.o.2.1,HX.o.2.2.1,HB.o⟩
      ·cases tE:h.toList.isEmpty
       ·have t2:=aa (show(y1.toList==[104,105,100,101]&&h.toList.isEmpty)=false from by rw[tH,tE];rfl)
        have HB:=aa (show dJ 801 ty.2 bE bE=dJ (ln none) none a h from by
         rw[HM.o,HY.o,K8 (show¬(y1=mh/\a=bE)from pg y1 a _ t1.o),K8 (show¬(y1=nz/\h=bE)from pg y1 h _ t2.o)];rfl)
        obtain⟨⟨q,cq⟩,fq,hn⟩:=hr5.fail;have hF6:=dG HF5.o (show w.heap.size+1≠b by omega) 2 (.bool true);have hR6:=dG HR5.o (show w.heap.size≠b by omega) 2 (.bool true);have hK6:=hK5.setCell 2 (.bool true);have HX:=aa (And.intro hF6 (And.intro hR6 (And.intro hK6 hn)));clear hF6 hR6 hK6 hn;go_wp2_with fail;go_roundg (ln (none:St))
        case measure=>simp only[ln]at*;omega
        case rel=>exact⟨a,h,none,KK _,HX.o.2.2.2,HX.o.1,HX.o.2.1,HX.o.2.2.1,HB.o⟩
       ·have t2:=aa (show(y1.toList==[104,105,100,101]&&h.toList.isEmpty)=true from by rw[tH,tE];rfl)
        have HB:=aa (show dJ 801 ty.2 bE bE=dJ (ln s5) s5 a y3 from by rw[HM.o,HY.o,K8 (show¬(y1=mh/\a=bE)from pg y1 a _ t1.o),K9 (show y1=nz/\h=bE from yP y1 h _ t2.o)]);have hF6:=aJ HF5.o 4 (.string y3);have hR6:=dG HR5.o (show w.heap.size≠w.heap.size+1 by omega) 4 (.string y3);have hK6:=hK5.setNew ⟨w.heap.size+1,4,none⟩ (by simp) (.string y3);have hn:=hr5.set HF5.o (by decide) (by decide) 4 (.string y3);have HX:=aa (And.intro hF6 (And.intro hR6 (And.intro hK6 hn)));clear hF6 hR6 hK6 hn;go_wp2_with fail;go_roundg (ln s5)
        case measure=>omega
        case rel=>exact⟨a,y3,s5,KK _,HX.o.2.2.2,HX.o.1,HX.o.2.1,HX.o.2.2.1,HB.o⟩
     ·have tH:(y1.toList==[104,105,100,101])=false:=by rw[bV]at tA⊢;simp only[Lc]at tA;rw[tA];decide
      cases tE:a.toList.isEmpty
      ·have t1:=aa (show(y1.toList==[97,117,116,104]&&a.toList.isEmpty)=false from by rw[tA,tE];rfl)
       have t2:=aa (show(y1.toList==[104,105,100,101]&&h.toList.isEmpty)=false from by rw[tH];rfl);have HB:=aa (show dJ 801 ty.2 bE bE=dJ (ln none) none a h from by
        rw[HM.o,HY.o,K8 (show¬(y1=mh/\a=bE)from pg y1 a _ t1.o),K8 (show¬(y1=nz/\h=bE)from pg y1 h _ t2.o)];rfl)
       obtain⟨⟨q,cq⟩,fq,hn⟩:=hr5.fail;have hF6:=dG HF5.o (show w.heap.size+1≠b by omega) 2 (.bool true);have hR6:=dG HR5.o (show w.heap.size≠b by omega) 2 (.bool true);have hK6:=hK5.setCell 2 (.bool true);have HX:=aa (And.intro hF6 (And.intro hR6 (And.intro hK6 hn)));clear hF6 hR6 hK6 hn;go_wp2_with fail;go_roundg (ln (none:St))
       case measure=>simp only[ln]at*;omega
       case rel=>exact⟨a,h,none,KK _,HX.o.2.2.2,HX.o.1,HX.o.2.1,HX.o.2.2.1,HB.o⟩
      ·have t1:=aa (show(y1.toList==[97,117,116,104]&&a.toList.isEmpty)=true from by rw[tA,tE];rfl)
       have HB:=aa (show dJ 801 ty.2 bE bE=dJ (ln s5) s5 y3 h from by rw[HM.o,HY.o,K9 (show y1=mh/\a=bE from yP y1 a _ t1.o)]);have hF6:=aJ HF5.o 3 (.string y3);have hR6:=dG HR5.o (show w.heap.size≠w.heap.size+1 by omega) 3 (.string y3);have hK6:=hK5.setNew ⟨w.heap.size+1,3,none⟩ (by simp) (.string y3);have hn:=hr5.set HF5.o (by decide) (by decide) 3 (.string y3);have HX:=aa (And.intro hF6 (And.intro hR6 (And.intro hK6 hn)));clear hF6 hR6 hK6 hn;go_wp2_with fail;go_roundg (ln s5)
       case measure=>omega
       case rel=>exact⟨y3,h,s5,KK _,HX.o.2.2.2,HX.o.1,HX.o.2.1,HX.o.2.2.1,HB.o⟩
   ·rw[hnn]at c2
    have HM2:=aa (xW s' a h (Jd s' hnn 11 (by decide)));have hF1:=HF.o;have hR1:=HR.o;have hK1:=hK;have p0:wr.cell? ⟨w.heap.size+1,0,none⟩=some (.string (nm s)):=ae hF1 0;have r0:wr.cell? ⟨w.heap.size,0,none⟩=some (.string ⟨#[]⟩):=ae hR1 0;have p1:wr.cell? ⟨w.heap.size+1,1,none⟩=some (.string y):=ae hF1 1;have r1:wr.cell? ⟨w.heap.size,1,none⟩=some (.string ⟨#[]⟩):=ae hR1 1;have p2:wr.cell? ⟨w.heap.size+1,2,none⟩=some (.string ty.1):=ae hF1 2;have r2:wr.cell? ⟨w.heap.size,2,none⟩=some (.string ⟨#[]⟩):=ae hR1 2;have p3:wr.cell? ⟨w.heap.size+1,3,none⟩=some (.string a):=ae hF1 3;have r3:wr.cell? ⟨w.heap.size,3,none⟩=some (.string ⟨#[]⟩):=ae hR1 3;have p4:wr.cell? ⟨w.heap.size+1,4,none⟩=some (.string h):=ae hF1 4;have r4:wr.cell? ⟨w.heap.size,4,none⟩=some (.string ⟨#[]⟩):=ae hR1 4;have rf:∀j,wr.frozen? ⟨w.heap.size,j,none⟩=false:=fun j=>ar hR1 j;have HZ:=aa (FIN.o wr hK1 hF1 hR1 s' hr);clear hF1 hR1 FIN HF HR;go_wp2_with fail;have Mf:=aa (show eh s=(⟨nm s,y,ty.1,a,h⟩,s')from by unfold eh;simp only[<-HP8.o,HTY.o,HM.o,HM2.o,HARG.o];try rfl);refine bodyPost_ret (v:=.agg #[.string (nm s),.string y,.string ty.1,.string a,.string h]) (by simp[results,results72,go_sem,r0,r1,r2,r3,r4]) rfl ⟨by rw[Mf.o];rfl,by rw[Mf.o];exact HZ.o.1,HZ.o.2⟩
def eX:Nat->St->List bj×St
 |0,s=>([],s)
 |n+1,s=>if s.isNone=true then([],s)else
  if af (eh s).2 15=true then([(eh s).1],tl (eh s).2)
  else((eh s).1::(eX n (eh s).2).1,(eX n (eh s).2).2)
def gy(s:St):List bj×St:=eX 801 (ak s (af s 14))
def nu(l:List bj):List Value:=l.flatMap fun f=>(sk f).toList
theorem JV(l:List bj)(f:bj):nu (l++[f])=nu l++(sk f).toList:=by simp[nu]
theorem B9:∀(f:Nat) (s:St),ln (fP f s).2<=ln s
 |0,s=>by simp[fP,ln]
 |f+1,s=>by
  rw[pz];have key:∀p:Ls×St,ln p.2<=ln s->ln (if af p.2 5=true then(p.1++⟨#[33]⟩,tl p.2)else(p.1,p.2)).2<=ln s:=by
   intro p hp;split
   ·exact KP (cK _) hp
   ·exact hp
  apply key;split
  ·exact KP (cg _ _) (KP (B9 f (tl s)) (cK s))
  ·exact bH s
theorem yV(s:St):ln (jt s).2<=ln s:=by
 unfold jt;split
 ·simp only
  refine KP (cg _ _) ?_;split
  ·simp[ln]
  ·exact KP (bH _) (KP (cg _ _) (KP (bH _) (cK s)))
 ·exact KK _
theorem vi:∀(f:Nat) (s:St) (a h:Ls),ln (dJ f s a h).2<=ln s
 |0,s,a,h=>KK _
 |f+1,s,a,h=>by
  simp only[dJ];have b1:=cg (ab (ak (ab (tl s)) (af (ab (tl s)) 7))) (af (ab (ak (ab (tl s)) (af (ab (tl s)) 7))) 8);have b2:=bH (ak (ab (tl s)) (af (ab (tl s)) 7));have b3:=cg (ab (tl s)) (af (ab (tl s)) 7);have b4:=bH (tl s);have b5:=cK s;split
  ·split
   ·exact KP (vi f _ _ _) (by omega)
   split
   ·exact KP (vi f _ _ _) (by omega)
   ·simp[ln]
  ·exact KK _
theorem wv(s:St)(h:s.isNone=false):ln (eh s).2<ln s:=by
 have h1:ln (ab s)<ln s:=by
  unfold ab;split
  ·rename_i hk;exact eY s 1 (by decide) hk
  ·match s,h with
   |some l,_=>simp[ln]
 unfold eh;simp only;refine Nat.lt_of_le_of_lt (vi _ _ _ _) (Nat.lt_of_le_of_lt (B9 _ _) (Nat.lt_of_le_of_lt (cg _ _) (Nat.lt_of_le_of_lt (yV _) h1)))
theorem uU:∀(f:Nat) (s:St),ln s<=f->eX f s=eX (ln s) s:=by
 intro f
 induction f using Nat.strongRecOn with
 |_ f ih=>
  intro s hl
  match f,s,hl with
  |f,none,hl=>
   match f with
   |0=>rfl
   |f+1=>rfl
  |0,some l,hl=>simp[ln]at hl
  |f+1,some l,hl=>
   show eX (f+1) (some l)=eX (l.length+1) (some l);have hl':l.length<=f:=by simpa [ln]using hl
   have h0:=wv (some l) rfl;have h1:ln (some l)=l.length+1:=rfl;simp only[eX];have e:eX f (eh (some l)).2=eX l.length (eh (some l)).2:=by
    rw[ih f (by omega) _ (by omega)];by_cases e:l.length=f
    ·rw[e,ih f (by omega) _ (by omega)]
    ·rw[ih l.length (by omega) _ (by omega)]
   rw[e]
theorem Bh(s:St)(h:s.isNone=true):eX (ln s) s=([],s):=by
 match s,h with
 |none,_=>rfl
theorem uI(s:St)(h:s.isNone=false):eX (ln s) s=if af (eh s).2 15=true then([(eh s).1],tl (eh s).2)else((eh s).1::(eX (ln (eh s).2) (eh s).2).1,(eX (ln (eh s).2) (eh s).2).2):=by
 have h0:=wv s h
 match s,h,h0 with
 |some l,h,h0=>
  have h1:ln (some l)=l.length+1:=rfl;rw[h1]at h0⊢;rw[<-uU l.length (eh (some l)).2 (by omega)];rfl
theorem info121:(prog.info? 121).map (fun i=>(i.zero,i.size,i.bytes))=some (some (.agg #[.string ⟨#[]⟩,.string ⟨#[]⟩,.string ⟨#[]⟩,.string ⟨#[]⟩,.string ⟨#[]⟩]),5,80):=by kernel_rfl
theorem Ja{a b c d e:Value}(h1:a.oneCell'=true)(h2:b.oneCell'=true)(h3:c.oneCell'=true)(h4:d.oneCell'=true)(h5:e.oneCell'=true):∀u∈[a,b,c,d,e],u.oneCell'=true:=by
 intro u hu;simp at hu;rcases hu with rfl|rfl|rfl|rfl|rfl<;>assumption
theorem RS.grown{w w':World}{b:Nat}{L:Value}{ts:List Tk}{s:St}{row:Option Nat}(h:RS w b L ts s)(hg:w.grownBy w' row)(hr:∀k,row=some k->k≠b/\L.ownBlock≠some k):RS w' b L ts s:=by
 obtain⟨a,bad,q1,q2,q3⟩:=h.st;refine⟨⟨a,bad,?_,q2,q3⟩,?_,h.len,h.wf⟩
 ·rw[hg.block b (ag q1) (fun e=>(hr b e.symm).1 rfl)];exact q1
 ·exact sU h.row fun k hk hlt=>hg.block k hlt fun e=>(hr k e.symm).2 hk
theorem RS.grown2{w w':World}{o o':Obj}{b:Nat}{L:Value}{ts:List Tk}{s:St}{row:Option Nat}(h:RS w b L ts s)(hg:((w.alloc o).alloc o').grownBy w' row)(hr:∀k,row=some k->k≠b/\L.ownBlock≠some k):RS w' b L ts s:=
 ((h.below ((KL _ _).alloc (KK _) _)).below ((KL _ _).alloc (KK _) _)).grown hg hr
theorem RS.grown1{w w':World}{o:Obj}{b:Nat}{L:Value}{ts:List Tk}{s:St}{row:Option Nat}(h:RS w b L ts s)(hg:(w.alloc o).grownBy w' row)(hr:∀k,row=some k->k≠b/\L.ownBlock≠some k):RS w' b L ts s:=
 (h.below ((KL _ _).alloc (KK _) _)).grown hg hr
theorem RS.apart{w:World}{b:Nat}{L:Value}{ts:List Tk}{s:St}{base n size:Nat}{e:TypeId}{v:Value}{xs:List Value}(h:RS w b L ts s)(ho:w.ownsRow base e size v n xs)(h1:e≠89)(h2:e≠137):∀k,v.ownBlock=some k->k≠b/\L.ownBlock≠some k:=by
 intro k hk;obtain⟨a,bad,q1,q2,q3⟩:=h.st;rcases ho.2 with⟨x,_⟩|⟨g,cap,cur,hv,hg,hh,r⟩
 ·rw[x]at hk;cases hk
 ·rw[hv]at hk;cases hk
  refine⟨fun x=>?_,fun x=>?_⟩
  ·subst x;rw[q1]at hh;cases hh;exact h1 rfl
  ·rcases h.row.2 with⟨y,_⟩|⟨g',LM,cur',hv',hg',hh',r'⟩
   ·rw[y]at x;cases x
   ·rw[hv']at x;cases x;rw[hh']at hh;cases hh;exact h2 rfl
theorem BI(w:World)(b:Nat)(L:Value)(ts:List Tk)(s:St)(h:RS w b L ts s):
 Calls prog 37 #[.pointer (some ⟨b,0,none⟩)] w fun e w'=>∃v,e=.returned v/\w'.ownsRow w.heap.size 121 5 v (gy s).1.length (nu (gy s).1)/\(gy s).1.length<=801/\RS w' b L ts (gy s).2/\ai b w w':=by
 obtain⟨i0,hi,hz0,hz1,hz2⟩:=info_parts info121;have hlt:=h.lt;go_enter func37,ntmps37;go_wp2_with fail;refine(gQ w b L ts s 14 ⟨#[123]⟩ rfl (by decide) (by decide) h).mono ?_;rintro e w1 ⟨rfl,hr1,hk1⟩;have HQ:=aa (show gy s=eX 801 (ak s (af s 14))from rfl);generalize ak s (af s 14)=s1 at*;have hln:=hr1.lnle;go_wp2_with fail;go_loopg [3] (ln s1) (fun k v wr=>∃(acc:List bj) (s':St),ln s'<=k/\RS wr b L ts s'/\wr.ownsRow w.heap.size 121 5 v acc.length (nu acc)/\acc.length+ln s'<=801/\ai b w wr/\eX 801 s1=(acc++(eX (ln s') s').1,(eX (ln s') s').2))
 case atStart=>exact⟨[],s1,KK _,hr1,K7 _ _ _ _,by simpa using hln,hk1,by rw[uU _ _ hln];simp⟩
 case round=>
  clear hr1 hk1 hln;obtain⟨acc,s',hlk,hr,LJ,hac,hK,hrel⟩:=hrel;have HM:=aa hrel;have c2:=hr.badc;have MG:=hK.size;clear hrel;cases hnn:s'.isNone
  ·rw[hnn]at c2
   have hl1:=wv s' hnn;have HS:=aa (uI s' hnn);clear hnn;go_wp2_with fail;refine(JQ wr b L ts s' hr).mono ?_;rintro e w2 ⟨rfl,hr2,hk2⟩;obtain⟨a0,NJ,q1,_,_⟩:=hr.st;have LL:=gW LJ hk2 q1 (by decide);have hK2:=hK.trans hk2;have LP:=LJ.lt;have hap:=hr2.apart LL (by decide) (by decide);have hsz2:w.heap.size<=w2.heap.size:=hK2.size;clear q1 hr LJ hk2 hK c2;generalize hf:(eh s').1=f at*;generalize hs2:(eh s').2=s2 at*;clear hf hs2;obtain⟨fn,fa,ft,fau,fh⟩:=f;have e5:sk ⟨fn,fa,ft,fau,fh⟩=#[.string fn,.string fa,.string ft,.string fau,.string fh]:=rfl;rw[e5];go_wp2_with (at_builtin;refine wpList_append_own _ rfl _ _ 94 rfl w.heap.size 121 i0 _ 5 80 underlying94 hi hz0 hz1 hz2 rfl (by decide) _ _ _ rfl ((LL.alloc _).alloc _) ⟨w2.heap.size+1,0,none⟩ 1 1 [.string fn,.string fa,.string ft,.string fau,.string fh] rfl rfl (de _ _ _ _ (by simp)) (Ja rfl rfl rfl rfl rfl) (by unfold maxLen;omega) (by omega) (by simp;omega) ?_;intro v' w3 hown' hgrow _);have hr3:RS w3 b L ts s2:=hr2.grown2 hgrow hap;have hK3:ai b w w3:=((hK2.alloc _).alloc _).grown hgrow (fun k hk=>(LP k hk).1);have Mg:w3.ownsRow w.heap.size 121 5 v' (acc++[(⟨fn,fa,ft,fau,fh⟩:bj)]).length (nu (acc++[(⟨fn,fa,ft,fau,fh⟩:bj)])):=by
    rw[JV,Lb];exact hown'
   clear hown' hgrow LL hr2 hK2 e5;have hm:=gI w3 b L ts s2 15 ⟨#[125]⟩ rfl (by decide) (by decide) hr3;cases h15:af s2 15
   ·rw[h15]at hm
    have HS2:=aa (show eX 801 s1=((acc++[(⟨fn,fa,ft,fau,fh⟩:bj)])++(eX (ln s2) s2).1,(eX (ln s2) s2).2)from by rw[HM.o,HS.o,h15];simp);clear h15;go_wp2_with fail;refine hm.mono ?_;clear hm;rintro e w4 ⟨rfl,hr4,hk4⟩;obtain⟨a0,NJ,q1,_,_⟩:=hr3.st;have L8:=gW Mg hk4 q1 (by decide);clear q1;go_wp2_with fail;go_roundg (ln s2)
    case measure=>omega
    case rel=>exact⟨acc++[(⟨fn,fa,ft,fau,fh⟩:bj)],s2,KK _,hr4,L8,by simp;omega,hK3.trans hk4,HS2.o⟩
   ·rw[h15]at hm
    have HS2:=aa (show gy s=(acc++[(⟨fn,fa,ft,fau,fh⟩:bj)],tl s2)from by rw[HQ.o,HM.o,HS.o,h15];simp);clear h15;go_wp2_with fail;refine hm.mono ?_;clear hm;rintro e w4 ⟨rfl,hr4,hk4⟩;obtain⟨a0,NJ,q1,_,_⟩:=hr3.st;have L8:=gW Mg hk4 q1 (by decide);clear q1;go_wp2_with fail;go_ret;exact⟨_,rfl,by rw[HS2.o];exact L8,by rw[HS2.o];simp;omega,by rw[HS2.o];exact hr4,hK3.trans hk4⟩
  ·rw[hnn]at c2
   have HS2:=aa (show gy s=(acc,s')from by rw[HQ.o,HM.o,Bh s' hnn];simp);clear hnn;go_wp2_with fail;go_ret;exact⟨_,rfl,by rw[HS2.o];exact LJ,by rw[HS2.o];simp only;omega,by rw[HS2.o];exact hr,hK⟩
def kM(s:St):St:=if dN s=true then tl s else none
theorem OG(X:World)(N b:Nat)(h:b≠N)(hb:b<X.heap.size)(x y z u:Value)(o:Obj):(((((X.setCell ⟨N,0,none⟩ x).setCell ⟨N,1,none⟩ y).setCell ⟨N,2,none⟩ z).setCell ⟨N,3,none⟩ u).alloc o).heap[b]?=X.heap[b]?:=by
 rw[bp _ _ _ (by simpa [World.setCell]using hb),fD _ _ _ h]
theorem xZ(w:World)(b:Nat)(L:Value)(ts:List Tk)(s:St)(h:RS w b L ts s):
 Calls prog 146 #[.pointer (some ⟨b,0,none⟩)] w fun e w'=>(∃v,e=.returned v)/\RS w' b L ts (kM s)/\ai b w w':=by
 have hlt:=h.lt;have h':RS (w.alloc (.cells #[.int .i64 0,.int .i64 0,.string ⟨#[]⟩,.slice none 0 0] 119)) b L ts s:=h.below ((KL _ _).alloc (KK _) _);have hp:=J4 (w.alloc (.cells #[.int .i64 0,.int .i64 0,.string ⟨#[]⟩,.slice none 0 0] 119)) b L ts s h';have H0:=aa h;clear h h';cases hl:dN s
 ·rw[hl]at hp
  have HT:=aa (show kM s=none from by unfold kM;rw[hl];rfl);clear hl;go_enter func146,ntmps146;go_wp2_with fail;refine hp.mono ?_;clear hp;rintro e w1 ⟨⟨x,y,z,rfl⟩,hr1,hk1⟩;obtain⟨⟨q,cq⟩,fq,hn⟩:=(hr1.below ((KL _ _).alloc (KK _) (.cells #[.int .i64 x,.int .i64 y,.string z,.slice none 0 0] 119))).fail;have HN:=aa hn;have hR:=hk1.at (KS w (.cells #[.int .i64 0,.int .i64 0,.string ⟨#[]⟩,.slice none 0 0] 119)) (by omega);have HR:=aa hR;have hc0:w1.cell? ⟨w.heap.size,0,none⟩=some (.int .i64 0):=ae hR 0;have hc1:w1.cell? ⟨w.heap.size,1,none⟩=some (.int .i64 0):=ae hR 1;have hc2:w1.cell? ⟨w.heap.size,2,none⟩=some (.string ⟨#[]⟩):=ae hR 2;have hc3:w1.cell? ⟨w.heap.size,3,none⟩=some (.slice none 0 0):=ae hR 3;have hf0:∀j,w1.frozen? ⟨w.heap.size,j,none⟩=false:=fun j=>ar hR j;have hs1:w.heap.size<w1.heap.size:=ag hR;have hK0:ai b w w1:=(ai.of_below ((KL _ _).alloc (KK _) _)).trans hk1;have hK:∀x' y' z' u,ai b w (((((((w1.alloc (.cells #[.int .i64 x,.int .i64 y,.string z,.slice none 0 0] 119)).setCell ⟨b,2,none⟩ (.bool true)).setCell ⟨w.heap.size,0,none⟩ x').setCell ⟨w.heap.size,1,none⟩ y').setCell ⟨w.heap.size,2,none⟩ z').setCell ⟨w.heap.size,3,none⟩ u)):=fun x' y' z' u=>
   ((((((hK0).alloc _).setCell 2 _).setNew _ (KK _) _).setNew _ (KK _) _).setNew _ (KK _) _).setNew _ (KK _) _
  clear hn hR hk1 hr1;go_wp2_with fail;refine bodyPost_ret (v:=.agg #[.int .i64 x,.int .i64 y,.string z,.slice none 0 0]) (by simp[results,results146,go_sem,hc0,hc1,hc2,hc3,hs1]) rfl ⟨⟨_,rfl⟩,?_,hK _ _ _ _⟩;rw[HT.o];exact HN.o.move H0.o (hK _ _ _ _) (fD _ _ _ (by omega) _ _ _ _)
 ·rw[hl]at hp
  have HT:=aa (show kM s=tl s from by unfold kM;rw[hl];rfl);clear hl;go_enter func146,ntmps146;go_wp2_with fail;refine hp.mono ?_;clear hp;rintro e w1 ⟨⟨x,y,z,rfl⟩,hr1,hk1⟩;have HN:=aa hr1;have hb2:b<w1.heap.size:=hr1.lt;have hR:=hk1.at (KS w (.cells #[.int .i64 0,.int .i64 0,.string ⟨#[]⟩,.slice none 0 0] 119)) (by omega);have hc0:w1.cell? ⟨w.heap.size,0,none⟩=some (.int .i64 0):=ae hR 0;have hc1:w1.cell? ⟨w.heap.size,1,none⟩=some (.int .i64 0):=ae hR 1;have hc2:w1.cell? ⟨w.heap.size,2,none⟩=some (.string ⟨#[]⟩):=ae hR 2;have hc3:w1.cell? ⟨w.heap.size,3,none⟩=some (.slice none 0 0):=ae hR 3;have hf0:∀j,w1.frozen? ⟨w.heap.size,j,none⟩=false:=fun j=>ar hR j;have hs1:w.heap.size<w1.heap.size:=ag hR;have hK0:ai b w w1:=(ai.of_below ((KL _ _).alloc (KK _) _)).trans hk1;have hK:∀x' y' z' u,ai b w (((((w1.setCell ⟨w.heap.size,0,none⟩ x').setCell ⟨w.heap.size,1,none⟩ y').setCell ⟨w.heap.size,2,none⟩ z').setCell ⟨w.heap.size,3,none⟩ u).alloc (.cells #[.int .i64 x,.int .i64 y,.string z,.slice none 0 0] 119)):=fun x' y' z' u=>
   ((((hK0.setNew _ (KK _) _).setNew _ (KK _) _).setNew _ (KK _) _).setNew _ (KK _) _).alloc _
  clear hR hk1 hr1;go_wp2_with fail;refine bodyPost_ret (v:=.agg #[.int .i64 x,.int .i64 y,.string z,.slice none 0 0]) (by simp[results,results146,go_sem,hc0,hc1,hc2,hc3,hs1]) rfl ⟨⟨_,rfl⟩,?_,hK _ _ _ _⟩;rw[HT.o];exact HN.o.move H0.o (hK _ _ _ _) (OG _ _ _ (by omega) hb2 _ _ _ _ _)
def dc:Ls:=aE [110,111,116]
def dX:Ls:=aE [97,108,108]
def cm:Ls:=aE [105,115]
def eV:Ls:=aE [118,105,101,119,101,114]
def dy:Ls:=aE [97,110,100]
def dW:Ls:=aE [111,114]
def dP:Nat->St->St
 |0,s=>s
 |f+1,s=>if aq s dc=true then dP f (tl s)else s
def dz(rr:St->St)(s:St):St:=
 let s0:=dP 801 s
 if aq s0 dX=true then tl s0
 else if aq s0 cm=true then ab (tl s0)
 else if af s0 7=true then ak (rr (tl s0)) (af (rr (tl s0)) 8)
 else
  let s2:=ak (ab s0) (af (ab s0) 10)
  if aq s2 eV=true then tl s2 else kM s2
def bM:Nat->St->St
 |0,s=>s
 |f+1,s=>if s.isNone=true then s else
  let s1:=dz (bM f) s
  if aq s1 dy=true then bM f (tl s1)else if aq s1 dW=true then bM f (tl s1)else s1
theorem rz(s:St)(x:Ls)(h:aq s x=true):ln (tl s)<ln s:=by
 unfold aq at h;simp only[Li]at h;exact eY s 1 (by decide) h.1
theorem qU:∀(f:Nat) (s:St),ln (dP f s)<=ln s
 |0,s=>KK _
 |f+1,s=>by
  simp only[dP];split
  ·exact KP (qU f _) (cK s)
  ·exact KK _
theorem A1:∀(f:Nat) (s:St),ln s<=f->dP f s=dP (ln s) s:=by
 intro f
 induction f using Nat.strongRecOn with
 |_ f ih=>
  intro s hl
  match f,s,hl with
  |f,none,hl=>
   match f with
   |0=>rfl
   |f+1=>simp only[dP,ue,ln];rfl
  |0,some l,hl=>simp[ln]at hl
  |f+1,some l,hl=>
   show dP (f+1) (some l)=dP (l.length+1) (some l);have hl':l.length<=f:=by simpa [ln]using hl
   simp only[dP];by_cases hw:aq (some l) dc=true
   ·rw[K9 hw,K9 hw]
    have h0:=rz (some l) dc hw;have h1:ln (some l)=l.length+1:=rfl;rw[ih f (by omega) _ (by omega)];by_cases e:l.length=f
    ·rw[e,ih f (by omega) _ (by omega)]
    ·rw[ih l.length (by omega) _ (by omega)]
   ·rw[K8 hw,K8 hw]
theorem Gq(s:St):dP (ln s) s=if aq s dc=true then dP (ln (tl s)) (tl s)else s:=by
 match s with
 |none=>simp[ue,ln,dP]
 |some l=>
  show dP (l.length+1) (some l)=_;simp only[dP];by_cases hw:aq (some l) dc=true
  ·rw[K9 hw,K9 hw]
   have h0:=rz (some l) dc hw;have h1:ln (some l)=l.length+1:=rfl;exact A1 _ _ (by omega)
  ·rw[K8 hw,K8 hw]
theorem Gl(s:St):ln (kM s)<=ln s:=by
 unfold kM;split
 ·exact cK s
 ·simp[ln]
theorem lg(s:St)(h:s.isNone=false):ln (ab s)<ln s:=by
 unfold ab;split
 ·rename_i hk;exact eY s 1 (by decide) hk
 ·match s,h with
  |some l,_=>simp[ln]
theorem xF(rr:St->St)(s:St)(hr:∀q,ln (rr q)<=ln q)(h:s.isNone=false):ln (dz rr s)<ln s:=by
 unfold dz;simp only;have h0:=qU 801 s;generalize dP 801 s=s0 at*;by_cases h1:aq s0 dX=true
 ·rw[K9 h1];have:=rz s0 _ h1;omega
 rw[K8 h1];by_cases h2:aq s0 cm=true
 ·rw[K9 h2];have:=rz s0 _ h2;have:=bH (tl s0);omega
 rw[K8 h2];by_cases h3:af s0 7=true
 ·rw[K9 h3];have:=eY s0 7 (by decide) h3;have:=hr (tl s0);have:=cg (rr (tl s0)) (af (rr (tl s0)) 8);omega
 rw[K8 h3];have a1:ln (ab s0)<ln s:=by
  cases hn:s0.isNone
  ·have:=lg s0 hn;omega
  ·match s0,hn with
   |none,_=>
    match s,h with
    |some l,_=>simp[ab,eP 1 (by decide),ln]
 have a2:=cg (ab s0) (af (ab s0) 10);generalize ak (ab s0) (af (ab s0) 10)=s2 at*;split
 ·have:=cK s2;omega
 ·have:=Gl s2;omega
theorem pG:∀(f:Nat) (s:St),ln (bM f s)<=ln s
 |0,s=>KK _
 |f+1,s=>by
  simp only[bM];by_cases hn:s.isNone=true
  ·rw[K9 hn];exact KK _
  rw[K8 hn];have h0:=xF (bM f) s (pG f) (by cases hx:s.isNone<;>simp_all);generalize dz (bM f) s=s1 at*;have:=cK s1;split
  ·have:=pG f (tl s1);omega
  split
  ·have:=pG f (tl s1);omega
  ·omega
theorem Hp(r1 r2:St->St)(s:St)(h:∀q,ln q<ln s->r1 q=r2 q):dz r1 s=dz r2 s:=by
 unfold dz;simp only;have h0:=qU 801 s;generalize dP 801 s=s0 at*;by_cases h3:af s0 7=true
 ·have:=eY s0 7 (by decide) h3
  rw[h (tl s0) (by omega)]
 ·rw[K8 h3,K8 h3]
theorem CK:∀(f:Nat) (s:St),ln s<=f->bM f s=bM (ln s) s:=by
 intro f
 induction f using Nat.strongRecOn with
 |_ f ih=>
  intro s hl
  match f,s,hl with
  |f,none,hl=>
   match f with
   |0=>rfl
   |f+1=>rfl
  |0,some l,hl=>simp[ln]at hl
  |f+1,some l,hl=>
   show bM (f+1) (some l)=bM (l.length+1) (some l);have hl':l.length<=f:=by simpa [ln]using hl
   have h1:ln (some l)=l.length+1:=rfl;have key:∀q,ln q<=l.length->bM f q=bM l.length q:=fun q hq=>by
    rw[ih f (by omega) q (by omega)];by_cases e:l.length=f
    ·rw[e,ih f (by omega) q (by omega)]
    ·rw[ih l.length (by omega) q hq]
   have hu:dz (bM f) (some l)=dz (bM l.length) (some l):=Hp _ _ _ fun q hq=>key q (by omega);have h2:=xF (bM l.length) (some l) (pG _) rfl;simp only[bM];rw[hu];have h3:=cK (dz (bM l.length) (some l));rw[key _ (by omega)]
theorem Jj(s:St)(h:s.isNone=true):bM (ln s) s=s:=by
 match s,h with
 |none,_=>rfl
theorem FZ(s:St)(h:s.isNone=false):∃n s1,ln s=n+1/\s1=dz (bM n) s/\ln s1<ln s/\bM (ln s) s=if aq s1 dy=true then bM (ln (tl s1)) (tl s1)else if aq s1 dW=true then bM (ln (tl s1)) (tl s1)else s1:=by
 match s,h with
 |some l,h=>
  have h2:=xF (bM l.length) (some l) (pG _) rfl;have h1:ln (some l)=l.length+1:=rfl;refine⟨l.length,_,rfl,rfl,h2,?_⟩;have h3:=cK (dz (bM l.length) (some l));show bM (l.length+1) (some l)=_;simp only[bM];rw[CK l.length _ (by omega)];rfl
def Aa(f:Nat):Prop:=∀(w:World) (b:Nat) (L:Value) (ts:List Tk) (s:St),ln s<=f->RS w b L ts s->
    Calls prog 71 #[.pointer (some ⟨b,0,none⟩)] w fun e w'=>e=.returned (.tuple #[])/\RS w' b L ts (bM f s)/\ai b w w'
theorem E2(f:Nat)(ih:Aa f)(w:World)(b:Nat)(L:Value)(ts:List Tk)(s:St)(hl:ln s<=f+1)(h:RS w b L ts s):
 Calls prog 107 #[.pointer (some ⟨b,0,none⟩)] w fun e w'=>e=.returned (.tuple #[])/\RS w' b L ts (dz (bM f) s)/\ai b w w':=by
 have hln:=h.lnle;go_enter func107,ntmps107;go_wp2_with fail;go_loopg [2] (ln s) (fun k v wr=>∃s',ln s'<=k/\RS wr b L ts s'/\ai b w wr/\dP 801 s=dP (ln s') s')
 case atStart=>exact⟨s,KK _,h,ai.refl _ _,A1 _ _ hln⟩
 case round=>
  clear h hln;obtain⟨s',hlk,hr,hK,hrel⟩:=hrel;have HM:=aa hrel;have HS:=aa (Gq s');have c2:=hr.badc;clear hrel;cases hnn:s'.isNone
  ·rw[hnn]at c2
   have hm:=mi wr b L ts s' ⟨#[110,111,116]⟩ hr;cases hw:aq s' dc
   ·have hm2:=hm
    rw[show aq s' ⟨#[110,111,116]⟩=aq s' dc from rfl,hw]at hm2;have H0:=aa (show dP 801 s=s' from by rw[HM.o,HS.o,hw];rfl);clear hm HM HS hw hnn;go_wp2_with fail;refine hm2.mono ?_;clear hm2;rintro e w0 ⟨rfl,hr0,hk0⟩;have hr0:RS w0 b L ts s':=hr0;have hK0:=hK.trans hk0;clear hr hK hk0 c2;go_wp2_with fail;refine(mi w0 b L ts s' ⟨#[97,108,108]⟩ hr0).mono ?_;rw[show aq s' ⟨#[97,108,108]⟩=aq s' dX from rfl];cases tA:aq s' dX
    ·rintro e x1 ⟨rfl,hr1,hk1⟩
     have hr1:RS x1 b L ts s':=hr1;have hK1:=hK0.trans hk1;clear hr0 hK0 hk1;have TA:=aa tA;clear tA;go_wp2_with fail;refine(mi x1 b L ts s' ⟨#[105,115]⟩ hr1).mono ?_;rw[show aq s' ⟨#[105,115]⟩=aq s' cm from rfl];cases tI:aq s' cm
     ·rintro e x2 ⟨rfl,hr2,hk2⟩
      have hr2:RS x2 b L ts s':=hr2;have hK2:=hK1.trans hk2;clear hr1 hK1 hk2;have TI:=aa tI;clear tI;go_wp2_with fail;refine(gI x2 b L ts s' 7 ⟨#[40]⟩ rfl (by decide) (by decide) hr2).mono ?_;cases tP:af s' 7
      ·rintro e x3 ⟨rfl,hr3,hk3⟩
       have hr3:RS x3 b L ts s':=hr3;have hK3:=hK2.trans hk3;clear hr2 hK2 hk3;have HE:=aa (show dz (bM f) s=if aq (ak (ab s') (af (ab s') 10)) eV=true then tl (ak (ab s') (af (ab s') 10))else kM (ak (ab s') (af (ab s') 10))from by unfold dz;simp only[H0.o];rw[TA.o,TI.o,tP];rfl);clear tP TA TI H0;go_wp2_with fail;refine(iX x3 b L ts s' hr3).mono ?_;rintro e x4 ⟨rfl,hr4,hk4⟩;go_wp2_with fail;refine(gQ x4 b L ts (ab s') 10 ⟨#[61]⟩ rfl (by decide) (by decide) hr4).mono ?_;rintro e x5 ⟨rfl,hr5,hk5⟩;have hK5:=(hK3.trans hk4).trans hk5;clear hr3 hr4 hK3 hk4 hk5;generalize ak (ab s') (af (ab s') 10)=s2 at*;go_wp2_with fail;refine(mi x5 b L ts s2 ⟨#[118,105,101,119,101,114]⟩ hr5).mono ?_;rw[show aq s2 ⟨#[118,105,101,119,101,114]⟩=aq s2 eV from rfl];cases tV:aq s2 eV
       ·rintro e x6 ⟨rfl,hr6,hk6⟩
        have hr6:RS x6 b L ts s2:=hr6;rw[tV]at HE;clear tV;go_wp2_with fail;refine(xZ x6 b L ts s2 hr6).mono ?_;rintro e x7 ⟨⟨v7,rfl⟩,hr7,hk7⟩;go_wp2_with fail;go_end0;exact⟨rfl,by rw[HE.o];exact hr7,(hK5.trans hk6).trans hk7⟩
       ·rintro e x6 ⟨rfl,hr6,hk6⟩
        rw[tV]at HE;clear tV;go_wp2_with fail;go_end0;exact⟨rfl,by rw[HE.o];exact hr6,hK5.trans hk6⟩
      ·rintro e x3 ⟨rfl,hr3,hk3⟩
       have hr3:RS x3 b L ts (tl s'):=hr3;have hK3:=hK2.trans hk3;clear hr2 hK2 hk3;have hlt:=eY s' 7 (by decide) tP;have HE:=aa (show dz (bM f) s=ak (bM f (tl s')) (af (bM f (tl s')) 8)from by unfold dz;simp only[H0.o];rw[TA.o,TI.o,tP];rfl);clear tP TA TI;have hl0:=qU 801 s;rw[H0.o]at hl0;have hc:=ih x3 b L ts (tl s') (by omega) hr3;clear hl0 hlt H0;go_wp2_with fail;refine hc.mono ?_;clear hc;rintro e x4 ⟨rfl,hr4,hk4⟩;go_wp2_with fail;refine(gQ x4 b L ts (bM f (tl s')) 8 ⟨#[41]⟩ rfl (by decide) (by decide) hr4).mono ?_;rintro e x5 ⟨rfl,hr5,hk5⟩;go_wp2_with fail;refine bodyPost_ret (v:=.tuple #[]) (by simp[results,results107,go_sem]) rfl ⟨rfl,by rw[HE.o];exact hr5,(hK3.trans hk4).trans hk5⟩
     ·rintro e x2 ⟨rfl,hr2,hk2⟩
      have hr2:RS x2 b L ts (tl s'):=hr2;have HE:=aa (show dz (bM f) s=ab (tl s')from by unfold dz;simp only[H0.o];rw[TA.o,tI];rfl);clear tI TA H0;go_wp2_with fail;refine(iX x2 b L ts (tl s') hr2).mono ?_;rintro e x3 ⟨rfl,hr3,hk3⟩;go_wp2_with fail;refine bodyPost_ret (v:=.tuple #[]) (by simp[results,results107,go_sem]) rfl ⟨rfl,by rw[HE.o];exact hr3,(hK1.trans hk2).trans hk3⟩
    ·rintro e x1 ⟨rfl,hr1,hk1⟩
     have HE:=aa (show dz (bM f) s=tl s' from by unfold dz;simp only[H0.o];rw[tA];rfl);clear tA H0;go_wp2_with fail;refine bodyPost_ret (v:=.tuple #[]) (by simp[results,results107,go_sem]) rfl ⟨rfl,by rw[HE.o];exact hr1,hK0.trans hk1⟩
   ·have hm2:=hm
    rw[show aq s' ⟨#[110,111,116]⟩=aq s' dc from rfl,hw]at hm2;have H0:=aa (show dP 801 s=dP (ln (tl s')) (tl s')from by rw[HM.o,HS.o,hw];rfl);have hlt:=rz s' _ hw;clear hm HM HS hw hnn;go_wp2_with fail;refine hm2.mono ?_;clear hm2;rintro e w0 ⟨rfl,hr0,hk0⟩;go_wp2_with fail;go_roundg (ln (tl s'))
    case measure=>omega
    case rel=>exact⟨tl s',KK _,hr0,hK.trans hk0,H0.o⟩
  ·rw[hnn]at c2
   have H0:=aa (show dP 801 s=s' from by rw[HM.o,HS.o];match s',hnn with|none,_=>rfl);have hK0:=hK;have hr0:=hr;clear HM HS hnn hK hr;go_wp2_with fail;refine(mi wr b L ts s' ⟨#[97,108,108]⟩ hr0).mono ?_;rw[show aq s' ⟨#[97,108,108]⟩=aq s' dX from rfl];cases tA:aq s' dX
   ·rintro e x1 ⟨rfl,hr1,hk1⟩
    have hr1:RS x1 b L ts s':=hr1;have hK1:=hK0.trans hk1;clear hr0 hK0 hk1;have TA:=aa tA;clear tA;go_wp2_with fail;refine(mi x1 b L ts s' ⟨#[105,115]⟩ hr1).mono ?_;rw[show aq s' ⟨#[105,115]⟩=aq s' cm from rfl];cases tI:aq s' cm
    ·rintro e x2 ⟨rfl,hr2,hk2⟩
     have hr2:RS x2 b L ts s':=hr2;have hK2:=hK1.trans hk2;clear hr1 hK1 hk2;have TI:=aa tI;clear tI;go_wp2_with fail;refine(gI x2 b L ts s' 7 ⟨#[40]⟩ rfl (by decide) (by decide) hr2).mono ?_;cases tP:af s' 7
     ·rintro e x3 ⟨rfl,hr3,hk3⟩
      have hr3:RS x3 b L ts s':=hr3;have hK3:=hK2.trans hk3;clear hr2 hK2 hk3;have HE:=aa (show dz (bM f) s=if aq (ak (ab s') (af (ab s') 10)) eV=true then tl (ak (ab s') (af (ab s') 10))else kM (ak (ab s') (af (ab s') 10))from by unfold dz;simp only[H0.o];rw[TA.o,TI.o,tP];rfl);clear tP TA TI H0;go_wp2_with fail;refine(iX x3 b L ts s' hr3).mono ?_;rintro e x4 ⟨rfl,hr4,hk4⟩;go_wp2_with fail;refine(gQ x4 b L ts (ab s') 10 ⟨#[61]⟩ rfl (by decide) (by decide) hr4).mono ?_;rintro e x5 ⟨rfl,hr5,hk5⟩;have hK5:=(hK3.trans hk4).trans hk5;clear hr3 hr4 hK3 hk4 hk5;generalize ak (ab s') (af (ab s') 10)=s2 at*;go_wp2_with fail;refine(mi x5 b L ts s2 ⟨#[118,105,101,119,101,114]⟩ hr5).mono ?_;rw[show aq s2 ⟨#[118,105,101,119,101,114]⟩=aq s2 eV from rfl];cases tV:aq s2 eV
      ·rintro e x6 ⟨rfl,hr6,hk6⟩
       have hr6:RS x6 b L ts s2:=hr6;rw[tV]at HE;clear tV;go_wp2_with fail;refine(xZ x6 b L ts s2 hr6).mono ?_;rintro e x7 ⟨⟨v7,rfl⟩,hr7,hk7⟩;go_wp2_with fail;go_end0;exact⟨rfl,by rw[HE.o];exact hr7,(hK5.trans hk6).trans hk7⟩
      ·rintro e x6 ⟨rfl,hr6,hk6⟩
       rw[tV]at HE;clear tV;go_wp2_with fail;go_end0;exact⟨rfl,by rw[HE.o];exact hr6,hK5.trans hk6⟩
     ·rintro e x3 ⟨rfl,hr3,hk3⟩
      have hr3:RS x3 b L ts (tl s'):=hr3;have hK3:=hK2.trans hk3;clear hr2 hK2 hk3;have hlt:=eY s' 7 (by decide) tP;have HE:=aa (show dz (bM f) s=ak (bM f (tl s')) (af (bM f (tl s')) 8)from by unfold dz;simp only[H0.o];rw[TA.o,TI.o,tP];rfl);clear tP TA TI;have hl0:=qU 801 s;rw[H0.o]at hl0;have hc:=ih x3 b L ts (tl s') (by omega) hr3;clear hl0 hlt H0;go_wp2_with fail;refine hc.mono ?_;clear hc;rintro e x4 ⟨rfl,hr4,hk4⟩;go_wp2_with fail;refine(gQ x4 b L ts (bM f (tl s')) 8 ⟨#[41]⟩ rfl (by decide) (by decide) hr4).mono ?_;rintro e x5 ⟨rfl,hr5,hk5⟩;go_wp2_with fail;refine bodyPost_ret (v:=.tuple #[]) (by simp[results,results107,go_sem]) rfl ⟨rfl,by rw[HE.o];exact hr5,(hK3.trans hk4).trans hk5⟩
    ·rintro e x2 ⟨rfl,hr2,hk2⟩
     have hr2:RS x2 b L ts (tl s'):=hr2;have HE:=aa (show dz (bM f) s=ab (tl s')from by unfold dz;simp only[H0.o];rw[TA.o,tI];rfl);clear tI TA H0;go_wp2_with fail;refine(iX x2 b L ts (tl s') hr2).mono ?_;rintro e x3 ⟨rfl,hr3,hk3⟩;go_wp2_with fail;refine bodyPost_ret (v:=.tuple #[]) (by simp[results,results107,go_sem]) rfl ⟨rfl,by rw[HE.o];exact hr3,(hK1.trans hk2).trans hk3⟩
   ·rintro e x1 ⟨rfl,hr1,hk1⟩
    have HE:=aa (show dz (bM f) s=tl s' from by unfold dz;simp only[H0.o];rw[tA];rfl);clear tA H0;go_wp2_with fail;refine bodyPost_ret (v:=.tuple #[]) (by simp[results,results107,go_sem]) rfl ⟨rfl,by rw[HE.o];exact hr1,hK0.trans hk1⟩
theorem EL:∀f,Aa f:=by
 intro f
 induction f using Nat.strongRecOn with
 |_ f ih=>
  intro w b L ts s hl h;have IH:=aa ih;clear ih;go_enter func71,ntmps71;go_wp2_with fail;go_loopg [2,3] (ln s) (fun k v2 v3 wr=>∃s',ln s'<=k/\ln s'<=ln s/\RS wr b L ts s'/\ai b w wr/\bM f s=bM (ln s') s')
  case atStart=>exact⟨s,KK _,KK _,h,ai.refl _ _,CK _ _ hl⟩
  case round=>
   clear h;obtain⟨s',hlk,hls,hr,hK,hrel⟩:=hrel;have HM:=aa hrel;have c2:=hr.badc;clear hrel;cases hnn:s'.isNone
   ·rw[hnn]at c2
    obtain⟨n,s1,hn,hs1,hl1,hst⟩:=FZ s' hnn;have hu:=E2 n (IH.o n (by omega)) wr b L ts s' (by omega) hr;rw[<-hs1]at hu;have HST:=aa hst;clear hnn hst hs1 hr IH hn;go_wp2_with fail;refine hu.mono ?_;clear hu;rintro e w1 ⟨rfl,hr1,hk1⟩;have hK1:=hK.trans hk1;clear hK hk1 c2;go_wp2_with fail;refine(mi w1 b L ts s1 ⟨#[97,110,100]⟩ hr1).mono ?_;rw[show aq s1 ⟨#[97,110,100]⟩=aq s1 dy from rfl];cases tA:aq s1 dy
    ·rintro e w2 ⟨rfl,hr2,hk2⟩
     have hr2:RS w2 b L ts s1:=hr2;rw[tA]at HST;clear tA;go_wp2_with fail;refine(mi w2 b L ts s1 ⟨#[111,114]⟩ hr2).mono ?_;rw[show aq s1 ⟨#[111,114]⟩=aq s1 dW from rfl];cases tO:aq s1 dW
     ·rintro e w3 ⟨rfl,hr3,hk3⟩
      have HE:=aa (show bM f s=s1 from by rw[HM.o,HST.o,tO];rfl);clear tO;go_wp2_with fail;refine bodyPost_ret (v:=.tuple #[]) (by simp[results,results71,go_sem]) rfl ⟨rfl,by rw[HE.o];exact hr3,(hK1.trans hk2).trans hk3⟩
     ·rintro e w3 ⟨rfl,hr3,hk3⟩
      have HE:=aa (show bM f s=bM (ln (tl s1)) (tl s1)from by rw[HM.o,HST.o,tO];rfl);have h9:=cK s1;clear tO;go_wp2_with fail;go_roundg (ln (tl s1))
      case measure=>omega
      case rel=>exact⟨tl s1,KK _,by omega,hr3,(hK1.trans hk2).trans hk3,HE.o⟩
    ·rintro e w2 ⟨rfl,hr2,hk2⟩
     have HE:=aa (show bM f s=bM (ln (tl s1)) (tl s1)from by rw[HM.o,HST.o,tA];rfl);have h9:=cK s1;clear tA;go_wp2_with fail;go_roundg (ln (tl s1))
     case measure=>omega
     case rel=>exact⟨tl s1,KK _,by omega,hr2,hK1.trans hk2,HE.o⟩
   ·rw[hnn]at c2
    have HE:=aa (show bM f s=s' from by rw[HM.o,Jj s' hnn]);clear hnn;go_wp2_with fail;go_end0;exact⟨rfl,by rw[HE.o];exact hr,hK⟩
def ja(s:St):St:=bM 801 s
theorem Ig(w:World)(b:Nat)(L:Value)(ts:List Tk)(s:St)(h:RS w b L ts s):
 Calls prog 71 #[.pointer (some ⟨b,0,none⟩)] w fun e w'=>e=.returned (.tuple #[])/\RS w' b L ts (ja s)/\ai b w w':=EL 801 w b L ts s h.lnle h
def oe:Ls:=aE [114,111,108,101]
def oG:Ls:=aE [116,121,112,101]
def FW:Ls:=aE [105,110,116,101,114,102,97,99,101]
def DM:Ls:=aE [117,110,105,111,110]
def kg(x:Ls):Bool:=decide (x=oe)||decide (x=oG)||decide (x=FW)||decide (x=DM)
theorem Av(x:Ls):kg x=((x.toList==[114,111,108,101])||(x.toList==[116,121,112,101])||(x.toList==[105,110,116,101,114,102,97,99,101])||(x.toList==[117,110,105,111,110])):=by
 rw[bV,bV,bV,bV];rfl
theorem AC(x:Ls)(w:World):Calls prog 68 #[.string x] w fun e w'=>e=.returned (.bool (kg x))/\w'=w:=by
 have HQ:=aa (Av x);cases t1:(x.toList==[114,111,108,101])
 ·cases t2:(x.toList==[116,121,112,101])
  ·cases t3:(x.toList==[105,110,116,101,114,102,97,99,101])
   ·cases t4:(x.toList==[117,110,105,111,110])
    ·go_enter func68,ntmps68
     go_wp2
     go_ret;exact⟨am (by rw[HQ.o,t1,t2,t3,t4];rfl),rfl⟩
    ·go_enter func68,ntmps68
     go_wp2
     go_ret;exact⟨am (by rw[HQ.o,t1,t2,t3,t4];rfl),rfl⟩
   ·go_enter func68,ntmps68
    go_wp2
    go_ret;exact⟨am (by rw[HQ.o,t1,t2,t3];rfl),rfl⟩
  ·go_enter func68,ntmps68
   go_wp2
   go_ret;exact⟨am (by rw[HQ.o,t1,t2];rfl),rfl⟩
 ·go_enter func68,ntmps68
  go_wp2
  go_ret;exact⟨am (by rw[HQ.o,t1];rfl),rfl⟩
def jv:St->Bool
 |some []=>true
 |_=>false
theorem uZ(w:World)(b:Nat)(c2:w.cell? ⟨b,2,none⟩=some (.bool true)):
 Calls prog 39 #[.pointer (some ⟨b,0,none⟩)] w fun e w'=>e=.returned (.bool false)/\Lt w w':=by
 go_enter func39,ntmps39;go_wp2_with fail;go_quiet (fail);go_wp2_with fail;go_ret;exact⟨rfl,by first|exact KL _ _|exact below_drewN (KL _ _) _⟩
theorem He(w:World)(b:Nat)(A:Option Addr)(n cap a:Nat)(q:Bool)(hq:((a:Int)==n)=q)
 (c0:w.cell? ⟨b,0,none⟩=some (.slice A n cap)) (c1:w.cell? ⟨b,1,none⟩=some (.int .i64 a)) (c2:w.cell? ⟨b,2,none⟩=some (.bool false)):
 Calls prog 39 #[.pointer (some ⟨b,0,none⟩)] w fun e w'=>e=.returned (.bool q)/\Lt w w':=by
 go_enter func39,ntmps39;go_wp2_with fail;go_quiet (fail);go_wp2_with fail;go_ret;exact⟨rfl,by first|exact KL _ _|exact below_drewN (KL _ _) _⟩
theorem BH(w:World)(b:Nat)(L:Value)(ts:List Tk)(s:St)(h:RS w b L ts s):
 Calls prog 39 #[.pointer (some ⟨b,0,none⟩)] w fun e w'=>e=.returned (.bool (jv s))/\Lt w w':=by
 obtain⟨a,bad,h1,h2,h3⟩:=h.st;have h4:=h.row;have c0:=ae h1 0;have c1:=ae h1 1;have c2:=ae h1 2;cases bad with
 |true=>rw[h3];exact uZ w b c2
 |false=>
  simp only[Lj,if_false]at h3;obtain⟨A,cap,rfl⟩:=bc h4;refine He w b A ts.length cap a _ ?_ c0 c1 c2;rw[h3];by_cases ha:a=ts.length
  ·rw[Lp (by omega)];simp[jv,ha]
  ·rw[Lq (by omega)];simp only[jv];simp;omega
def ia(s:St):Bool:=af s 1&&!kg (hd s).s
def fI:Nat->St->List Ls×St
 |0,s=>([],s)
 |f+1,s=>if s.isNone=true then([],s)else
  let s1:=if kg (nm s)=true then none else ab s
  if ia s1=true then(nm s::(fI f s1).1,(fI f s1).2)else([nm s],s1)
structure aj where
 name:Ls
 LA:List Ls
def iq(s:St):aj×St:=
 if af (ab s) 9=true then(⟨nm s,(fI 801 (tl (ab s))).1⟩,(fI 801 (tl (ab s))).2)else(⟨nm s,[]⟩,ab s)
def bt(l:List Ls):List Value:=l.map Value.string
theorem rS(l:List Ls)(x:Ls):bt (l++[x])=bt l++[.string x]:=by simp[bt]
theorem wP(s:St)(h:s.isNone=false):ln (if kg (nm s)=true then none else ab s)<ln s:=by
 have:=lg s h;split
 ·simp[ln]at*;omega
 ·exact this
theorem xk:∀(f:Nat) (s:St),ln s<=f->fI f s=fI (ln s) s:=by
 intro f
 induction f using Nat.strongRecOn with
 |_ f ih=>
  intro s hl
  match f,s,hl with
  |f,none,hl=>
   match f with
   |0=>rfl
   |f+1=>rfl
  |0,some l,hl=>simp[ln]at hl
  |f+1,some l,hl=>
   show fI (f+1) (some l)=fI (l.length+1) (some l);have hl':l.length<=f:=by simpa [ln]using hl
   have h1:ln (some l)=l.length+1:=rfl;have h0:=wP (some l) rfl;simp only[fI];have e:fI f (if kg (nm (some l))=true then none else ab (some l))=fI l.length (if kg (nm (some l))=true then none else ab (some l)):=by
    rw[ih f (by omega) _ (by omega)];by_cases e:l.length=f
    ·rw[e,ih f (by omega) _ (by omega)]
    ·rw[ih l.length (by omega) _ (by omega)]
   rw[e]
theorem zG(s:St)(h:s.isNone=true):fI (ln s) s=([],s):=by
 match s,h with
 |none,_=>rfl
theorem wB(s s1:St)(h:s.isNone=false)(hs:s1=if kg (nm s)=true then none else ab s):fI (ln s) s=if ia s1=true then(nm s::(fI (ln s1) s1).1,(fI (ln s1) s1).2)else([nm s],s1):=by
 have h0:=wP s h
 match s,h,h0 with
 |some l,h,h0=>
  have h1:ln (some l)=l.length+1:=rfl;rw[h1]at h0⊢;rw[<-hs]at h0;rw[<-xk l.length s1 (by omega)];subst hs;rfl
theorem J9(s:St):ia s=(decide (rk (hd s).k=1)&&!kg (rs (hd s))):=by
 unfold ia af;by_cases h:(hd s).k=1
 ·have e1:rk (hd s).k=1:=(mW _).2 h
  have e2:rs (hd s)=(hd s).s:=by unfold rs;rw[K9 (by omega)]
  rw[e1,e2,h];rfl
 ·have:¬rk (hd s).k=1:=fun e=>h ((mW _).1 e)
  rw[KT this];simp[h]
theorem info9:(prog.info? 9).map (fun i=>(i.zero,i.size,i.bytes))=some (some (.string ⟨#[]⟩),1,16):=by kernel_rfl
theorem jq{w w':World}{row:Option Nat}{F:Nat}{cs:Array Value}{T:TypeId}{fr:Nat×Nat}(hg:w.grownBy w' row)(hF:w.heap[F]?=some (.cells cs T fr))(hr:row≠some F):w'.heap[F]?=some (.cells cs T fr):=by
 rw[hg.block F (ag hF) (fun e=>hr e.symm)];exact hF
theorem gM{w:World}{base n size:Nat}{e:TypeId}{v:Value}{xs:List Value}{F:Nat}{cs:Array Value}{T:TypeId}{fr:Nat×Nat}(ho:w.ownsRow base e size v n xs)(hF:w.heap[F]?=some (.cells cs T fr))(h:T≠e):v.ownBlock≠some F:=by
 rcases ho.2 with⟨x,_⟩|⟨g,cap,cur,hv,hg,hh,r⟩
 ·rw[x];simp[Value.ownBlock]
 ·rw[hv];simp only[Value.ownBlock];intro q;cases q;rw[hF]at hh;cases hh;exact h rfl
theorem Ah{w:World}{base n size N:Nat}{e:TypeId}{v:Value}{xs:List Value}{cs:Array Value}{T:TypeId}{fr:Nat×Nat}(ho:w.ownsRow base e size v n xs)(hN:w.heap[N]?=some (.cells cs T fr))(h:T≠e)(x y:Value):((w.setCell ⟨N,0,none⟩ x).setCell ⟨N,1,none⟩ y).ownsRow base e size v n xs:=
 gW ho (((ai.refl N w).setCell 0 x).setCell 1 y) hN h
theorem Ih(w:World)(b:Nat)(L:Value)(ts:List Tk)(s:St)(h:RS w b L ts s):
 Calls prog 35 #[.pointer (some ⟨b,0,none⟩)] w fun e w'=>∃v,e=.returned (.agg #[.string (iq s).1.name,v])/\w'.ownsRow w.heap.size 9 1 v (iq s).1.LA.length (bt (iq s).1.LA)/\(iq s).1.LA.length<=801/\RS w' b L ts (iq s).2/\ai b w w':=by
 obtain⟨i0,hi,hz0,hz1,hz2⟩:=info_parts info9;have hlt:=h.lt;have hr0:RS ((w.alloc (.cells #[.string ⟨#[]⟩,.slice none 0 0] 92)).alloc (.cells #[.string ⟨#[]⟩,.slice none 0 0] 92)) b L ts s:=h.below (di _ _ _);have HR0:=aa (ig w (.cells #[.string ⟨#[]⟩,.slice none 0 0] 92) (.cells #[.string ⟨#[]⟩,.slice none 0 0] 92));have HF0:=aa (eo w (.cells #[.string ⟨#[]⟩,.slice none 0 0] 92) (.cells #[.string ⟨#[]⟩,.slice none 0 0] 92));have hK0:ai b w ((w.alloc (.cells #[.string ⟨#[]⟩,.slice none 0 0] 92)).alloc (.cells #[.string ⟨#[]⟩,.slice none 0 0] 92)):=ai.of_below (di _ _ _);clear h;go_enter func35,ntmps35;go_wp2_with fail;generalize (w.alloc (.cells #[.string ⟨#[]⟩,.slice none 0 0] 92)).alloc (.cells #[.string ⟨#[]⟩,.slice none 0 0] 92)=w0 at*;refine(iX w0 b L ts s hr0).mono ?_;rintro e w1 ⟨rfl,hr1,hk1⟩;have HF1:=aa (hk1.at HF0.o (by omega));have HR1:=aa (hk1.at HR0.o (by omega));have hK1:=hK0.trans hk1;clear HF0 HR0 hK0 hr0 hk1;have c0:w1.cell? ⟨w.heap.size+1,0,none⟩=some (.string ⟨#[]⟩):=ae HF1.o 0;have cf:=ar HF1.o 0;go_wp2_with fail;have hr2:=hr1.set HF1.o (by decide) (by decide) 0 (.string (nm s));have HF2:=aa (show(w1.setCell ⟨w.heap.size+1,0,none⟩ (.string (nm s))).heap[w.heap.size+1]?=some (.cells #[.string (nm s),.slice none 0 0] 92 (0,0))from aJ HF1.o 0 _);have HR2:=aa (dG HR1.o (show w.heap.size≠w.heap.size+1 by omega) 0 (.string (nm s)));have hK2:=hK1.setNew ⟨w.heap.size+1,0,none⟩ (by simp) (.string (nm s));clear c0 cf HF1 HR1 hK1 hr1;generalize w1.setCell ⟨w.heap.size+1,0,none⟩ (.string (nm s))=w2 at*;refine(gI w2 b L ts (ab s) 9 ⟨#[58]⟩ rfl (by decide) (by decide) hr2).mono ?_;rintro e w3 ⟨rfl,hr3,hk3⟩;have HF3:=aa (hk3.at HF2.o (by omega));have HR3:=aa (hk3.at HR2.o (by omega));have hK3:=hK2.trans hk3;have hln:=hr3.lnle;clear HF2 HR2 hK2 hr2 hk3;have H0:=aa (show iq s=if af (ab s) 9=true then(⟨nm s,(fI 801 (tl (ab s))).1⟩,(fI 801 (tl (ab s))).2)else(⟨nm s,[]⟩,ab s)from rfl);generalize af (ab s) 9=ok0 at*;go_wp2_with fail;go_loopg [4,5,6,7] (ln (ec (ab s) ok0)) (fun k v4 v5 v6 v7 wr=>∃(ok:Bool) (LA:List Ls) (vI:Value) (s':St),v4=.bool ok/\ln s'<=k/\RS wr b L ts s'/\wr.heap[w.heap.size+1]?=some (.cells #[.string (nm s),vI] 92 (0,0))/\wr.heap[w.heap.size]?=some (.cells #[.string ⟨#[]⟩,.slice none 0 0] 92)/\wr.ownsRow (w.heap.size+2) 9 1 vI LA.length (bt LA)/\LA.length+ln s'<=801/\ai b w wr/\iq s=if ok=true then(⟨nm s,LA++(fI (ln s') s').1⟩,(fI (ln s') s').2)else(⟨nm s,LA⟩,s'))
 case atStart=>exact⟨ok0,[],_,_,rfl,KK _,hr3,HF3.o,HR3.o,K7 _ _ _ _,by simpa using hln,hK3,by
  rw[H0.o];cases ok0
  ·rfl
  ·simp only[if_true,List.nil_append,ec];rw[xk 801 _ (by simpa [ec]using hln)]⟩
 case round=>
  clear HF3 HR3 hK3 hr3 hln H0;obtain⟨ok,LA,vI,s',rfl,hlk,hr,hF,hR,LJ,hil,hK,hrel⟩:=hrel;have HF:=aa hF;have HR:=aa hR;have HM:=aa hrel;have c2:=hr.badc;have hF1:=hF;have hR1:=hR;have L7:=LJ;have hK1:=hK;clear hrel hF hR;obtain⟨aI,MB,hvI⟩:=bc LJ;subst hvI;cases ok
  ·have Mf:=aa (show iq s=(⟨nm s,LA⟩,s')from HM.o)
   have p0:wr.cell? ⟨w.heap.size+1,0,none⟩=some (.string (nm s)):=ae hF1 0;have p1:wr.cell? ⟨w.heap.size+1,1,none⟩=some (.slice aI LA.length MB):=ae hF1 1;have r0:wr.cell? ⟨w.heap.size,0,none⟩=some (.string ⟨#[]⟩):=ae hR1 0;have r1:wr.cell? ⟨w.heap.size,1,none⟩=some (.slice none 0 0):=ae hR1 1;have rf:∀j,wr.frozen? ⟨w.heap.size,j,none⟩=false:=fun j=>ar hR1 j;have HZ1:=aa ((hr.set hR1 (by decide) (by decide) 0 (.string (nm s))).set (aJ hR1 0 _) (by decide) (by decide) 1 (.slice aI LA.length MB));have HZ2:=aa ((hK1.setNew ⟨w.heap.size,0,none⟩ (KK _) (.string (nm s))).setNew ⟨w.heap.size,1,none⟩ (KK _) (.slice aI LA.length MB));have HZ3:=aa (Ah L7 hR1 (by decide) (.string (nm s)) (.slice aI LA.length MB));clear hF1 hR1;go_wp2_with fail;refine bodyPost_ret (v:=.agg #[.string (nm s),.slice aI LA.length MB]) (by simp[results,results35,go_sem,r0,r1]) rfl ⟨_,by rw[Mf.o],?_,by rw[Mf.o];simp only;omega,by rw[Mf.o];exact HZ1.o,HZ2.o⟩;rw[Mf.o];exact iJ HZ3.o (by omega)
  ·cases hnn:s'.isNone
   ·rw[hnn]at c2
    clear hF1 hR1 L7 hK1;have hl1:=wP s' hnn;have hln1:=lg s' hnn;have HST:=aa (wB s' _ hnn rfl);clear hnn;go_wp2_with fail;refine(iX wr b L ts s' hr).mono ?_;rintro e x1 ⟨rfl,hr1,hk1⟩;have HF1:=aa (hk1.at HF.o (by omega));have HR1:=aa (hk1.at HR.o (by omega));have hK1:=hK.trans hk1;obtain⟨a0,NJ,q1,_,_⟩:=hr.st;have L7:=gW LJ hk1 q1 (by decide);clear HF HR hK hr hk1 q1 LJ c2;generalize nm s'=y at*;go_wp2_with fail;refine(AC y _).mono ?_;rintro e x1' ⟨rfl,hx1⟩;have hx1:=hx1.symm;subst hx1
    go_upto_if 26 with fail
    go_cut [6] (fun v6 wc=>∃s1,s1=(if kg y=true then none else ab s')/\RS wc b L ts s1/\wc.heap[w.heap.size+1]?=some (.cells #[.string (nm s),.slice aI LA.length MB] 92 (0,0))/\wc.heap[w.heap.size]?=some (.cells #[.string ⟨#[]⟩,.slice none 0 0] 92)/\wc.ownsRow (w.heap.size+2) 9 1 (.slice aI LA.length MB) LA.length (bt LA)/\ai b w wc)
    case first=>
     cases tk:kg y
     ·go_wp2_with fail
      go_meet;exact⟨ab s',by rw[tk];rfl,hr1,HF1.o,HR1.o,L7,hK1⟩
     ·obtain⟨⟨q,cq⟩,fq,hn⟩:=hr1.fail
      have hF2:=dG HF1.o (show w.heap.size+1≠b by omega) 2 (.bool true);have hR2:=dG HR1.o (show w.heap.size≠b by omega) 2 (.bool true);obtain⟨a0,NJ,q1,_,_⟩:=hr1.st;have LL:=gW L7 ((ai.refl b x1).setCell 2 (.bool true)) q1 (by decide);have HX:=aa (And.intro hn (And.intro hF2 (And.intro hR2 (And.intro LL (hK1.setCell 2 (.bool true))))));clear hn hF2 hR2 q1 LL;go_wp2_with fail;go_meet;exact⟨none,by rw[tk];rfl,HX.o.1,HX.o.2.1,HX.o.2.2.1,HX.o.2.2.2.1,HX.o.2.2.2.2⟩
    case rest=>
     clear HF1 HR1 hK1 hr1 L7;obtain⟨s1,hs1,hr2,hF2,hR2,LL,hK2⟩:=hcut;rw[<-hs1]at HST hl1;have HS1:=aa hs1;clear hs1;have HF2:=aa hF2;have HR2:=aa hR2;have c1:wc.cell? ⟨w.heap.size+1,1,none⟩=some (.slice aI LA.length MB):=ae hF2 1;have cf1:=ar hF2 1;have hne:=gM LL hF2 (by decide);have MT:=gM LL hR2 (by decide);have hap:=hr2.apart LL (by decide) (by decide);have LP:=LL.lt;have M8:=ag hF2;clear hF2 hR2;go_wp2_with (at_builtin;refine wpList_append_own _ rfl _ _ 50 rfl (w.heap.size+2) 9 i0 _ 1 16 underlying50 hi hz0 hz1 hz2 rfl (by decide) _ _ _ rfl (LL.alloc _) ⟨wc.heap.size,0,none⟩ 1 1 [.string y] rfl rfl (cell_one_new _ _ _) (fun u hu=>by simp at hu;subst hu;rfl) (by unfold maxLen;omega) (by omega) (by simp;omega) ?_;intro v' x3 hown' hgrow _;obtain⟨a',LM,hv'⟩:=bc hown';subst hv';have hF3:=jq hgrow (show(wc.alloc _).heap[w.heap.size+1]?=_ from(bp _ _ _ M8).trans HF2.o) hne;have hc3:=(ae hF3 1:x3.cell? ⟨w.heap.size+1,1,none⟩=some (.slice aI LA.length MB));have hf3:=ar hF3 1;have HF3:=aa hF3;clear hF3);have hr3:=hr2.grown1 hgrow hap;have HR3:=aa (jq hgrow (show(wc.alloc _).heap[w.heap.size]?=_ from(bp _ _ _ (by omega)).trans HR2.o) MT);have hK3:ai b w x3:=(hK2.alloc _).grown hgrow (fun k hk=>by have:=(LP k hk).1;omega);have hr4:=hr3.set HF3.o (by decide) (by decide) 1 (.slice a' (LA.length+1) LM);have HF4:=aa (show(x3.setCell ⟨w.heap.size+1,1,none⟩ (.slice a' (LA.length+1) LM)).heap[w.heap.size+1]?=some (.cells #[.string (nm s),.slice a' (LA.length+1) LM] 92 (0,0))from aJ HF3.o 1 _);have HR4:=aa (dG HR3.o (show w.heap.size≠w.heap.size+1 by omega) 1 (.slice a' (LA.length+1) LM));have hK4:=hK3.setNew ⟨w.heap.size+1,1,none⟩ (by simp) (.slice a' (LA.length+1) LM);have L8:=gW hown' ((ai.refl (w.heap.size+1) x3).setCell 1 (.slice a' (LA.length+1) LM)) HF3.o (by decide);clear hc3 hf3 HF3 HR3 hr3 hK3 hown' hgrow hK2 LL hr2 HF2 HR2 c1 cf1 hne MT hap LP M8;generalize x3.setCell ⟨w.heap.size+1,1,none⟩ (.slice a' (LA.length+1) LM)=x4 at*;have HOK:=aa (J9 s1);have hp:=vZ x4 b L ts s1 hr4;generalize rk (hd s1).k=k1 at*;generalize rs (hd s1)=z at*;generalize (hd s1).n=n1 at*;refine hp.mono ?_;clear hp;rintro e x5 ⟨rfl,hb5⟩;have hr5:=hr4.below hb5;have HF5:=aa ((hb5.block _ (ag HF4.o)).trans HF4.o);have HR5:=aa ((hb5.block _ (ag HR4.o)).trans HR4.o);have hK5:=hK4.trans (ai.of_below hb5);have LV:=bZ L8 hb5;clear hr4 HF4 HR4 hK4 L8 hb5;go_wp2_with fail;refine(AC z _).mono ?_;rintro e x6 ⟨rfl,hx6⟩;have hr6:=hr5.below ((KL _ _).alloc (KK _) (.cells #[.int .i64 k1,.string z,.int .i64 n1] 137));have HF6:=aa ((bp x5 (.cells #[.int .i64 k1,.string z,.int .i64 n1] 137) _ (ag HF5.o)).trans HF5.o);have HR6:=aa ((bp x5 (.cells #[.int .i64 k1,.string z,.int .i64 n1] 137) _ (ag HR5.o)).trans HR5.o);have hK6:=hK5.alloc (.cells #[.int .i64 k1,.string z,.int .i64 n1] 137);have Mt:=LV.alloc (.cells #[.int .i64 k1,.string z,.int .i64 n1] 137);rw[hx6];have HL:=aa (show iq s=if ia s1=true then(⟨nm s,(LA++[y])++(fI (ln s1) s1).1⟩,(fI (ln s1) s1).2)else(⟨nm s,LA++[y]⟩,s1)from by
      rw[HM.o,HST.o];simp only[if_true];split<;>simp)
     clear hr5 HF5 HR5 hK5 LV hx6 HM HST HS1;by_cases e1:k1=1
     ·have t1:((k1:Int)==1)=true:=by simp;omega
      have HO:=aa (show ia s1=!kg z from by rw[HOK.o,e1];rfl);clear e1;cases tz:kg z
      ·go_wp2_with fail
       go_roundg (ln s1)
       case measure=>omega
       case rel=>exact⟨true,LA++[y],_,s1,rfl,KK _,hr6,HF6.o,HR6.o,by simpa [bt]using Mt,by simp;omega,hK6,by rw[HL.o,HO.o,tz];rfl⟩
      ·go_wp2_with fail
       go_roundg (ln s1)
       case measure=>omega
       case rel=>exact⟨false,LA++[y],_,s1,rfl,KK _,hr6,HF6.o,HR6.o,by simpa [bt]using Mt,by simp;omega,hK6,by rw[HL.o,HO.o,tz];rfl⟩
     ·have t1:((k1:Int)==1)=false:=by simp;omega
      have HO:=aa (show ia s1=false from by rw[HOK.o,KT e1];rfl);clear e1;go_wp2_with fail;go_roundg (ln s1)
      case measure=>omega
      case rel=>exact⟨false,LA++[y],_,s1,rfl,KK _,hr6,HF6.o,HR6.o,by simpa [bt]using Mt,by simp;omega,hK6,by rw[HL.o,HO.o]⟩
   ·rw[hnn]at c2
    have Mf:=aa (show iq s=(⟨nm s,LA⟩,s')from by rw[HM.o,zG s' hnn];simp);clear hnn;have p0:wr.cell? ⟨w.heap.size+1,0,none⟩=some (.string (nm s)):=ae hF1 0;have p1:wr.cell? ⟨w.heap.size+1,1,none⟩=some (.slice aI LA.length MB):=ae hF1 1;have r0:wr.cell? ⟨w.heap.size,0,none⟩=some (.string ⟨#[]⟩):=ae hR1 0;have r1:wr.cell? ⟨w.heap.size,1,none⟩=some (.slice none 0 0):=ae hR1 1;have rf:∀j,wr.frozen? ⟨w.heap.size,j,none⟩=false:=fun j=>ar hR1 j;have HZ1:=aa ((hr.set hR1 (by decide) (by decide) 0 (.string (nm s))).set (aJ hR1 0 _) (by decide) (by decide) 1 (.slice aI LA.length MB));have HZ2:=aa ((hK1.setNew ⟨w.heap.size,0,none⟩ (KK _) (.string (nm s))).setNew ⟨w.heap.size,1,none⟩ (KK _) (.slice aI LA.length MB));have HZ3:=aa (Ah L7 hR1 (by decide) (.string (nm s)) (.slice aI LA.length MB));clear hF1 hR1;go_wp2_with fail;refine bodyPost_ret (v:=.agg #[.string (nm s),.slice aI LA.length MB]) (by simp[results,results35,go_sem,r0,r1]) rfl ⟨_,by rw[Mf.o],?_,by rw[Mf.o];simp only;omega,by rw[Mf.o];exact HZ1.o,HZ2.o⟩;rw[Mf.o];exact iJ HZ3.o (by omega)
structure ap where
 sort:Nat
 name:Ls
 fields:List bj
 Ly:List Ls
 LC:Bool
 Lw:List Tk
def fg:Nat->St->List Ls×St
 |0,s=>([],s)
 |f+1,s=>if s.isNone=true then([],s)else
  if af (ab s) 16=true then(nm s::(fg f (tl (ab s))).1,(fg f (tl (ab s))).2)else([nm s],ab s)
def gm(s:St):ap×St:=
 let s2:=ak (ab s) (af (ab s) 10)
 (⟨2,nm s,[],(fg 801 s2).1,false,[]⟩,(fg 801 s2).2)
theorem sr(s:St)(h:s.isNone=false):ln (tl (ab s))<ln s:=by
 have:=lg s h;have:=cK (ab s);omega
theorem wU:∀(f:Nat) (s:St),ln s<=f->fg f s=fg (ln s) s:=by
 intro f
 induction f using Nat.strongRecOn with
 |_ f ih=>
  intro s hl
  match f,s,hl with
  |f,none,hl=>
   match f with
   |0=>rfl
   |f+1=>rfl
  |0,some l,hl=>simp[ln]at hl
  |f+1,some l,hl=>
   show fg (f+1) (some l)=fg (l.length+1) (some l);have hl':l.length<=f:=by simpa [ln]using hl
   have h1:ln (some l)=l.length+1:=rfl;have h0:=sr (some l) rfl;simp only[fg];have e:fg f (tl (ab (some l)))=fg l.length (tl (ab (some l))):=by
    rw[ih f (by omega) _ (by omega)];by_cases e:l.length=f
    ·rw[e,ih f (by omega) _ (by omega)]
    ·rw[ih l.length (by omega) _ (by omega)]
   rw[e]
theorem vp(s:St)(h:s.isNone=true):fg (ln s) s=([],s):=by
 match s,h with
 |none,_=>rfl
theorem Bq(s:St)(h:s.isNone=false):fg (ln s) s=if af (ab s) 16=true then(nm s::(fg (ln (tl (ab s))) (tl (ab s))).1,(fg (ln (tl (ab s))) (tl (ab s))).2)else([nm s],ab s):=by
 have h0:=sr s h
 match s,h,h0 with
 |some l,h,h0=>
  have h1:ln (some l)=l.length+1:=rfl;rw[h1]at h0⊢;rw[<-wU l.length _ (by omega)];rfl
theorem uB{w:World}{base n size N:Nat}{e:TypeId}{v:Value}{xs:List Value}{cs:Array Value}{T:TypeId}{fr:Nat×Nat}(ho:w.ownsRow base e size v n xs)(hN:w.heap[N]?=some (.cells cs T fr))(h:T≠e)(x0 x1 x2 x3 x4 x5:Value):((((((w.setCell ⟨N,0,none⟩ x0).setCell ⟨N,1,none⟩ x1).setCell ⟨N,2,none⟩ x2).setCell ⟨N,3,none⟩ x3).setCell ⟨N,4,none⟩ x4).setCell ⟨N,5,none⟩ x5).ownsRow base e size v n xs:=
 gW ho (((((((ai.refl N w).setCell 0 x0).setCell 1 x1).setCell 2 x2).setCell 3 x3).setCell 4 x4).setCell 5 x5) hN h
theorem vG{b:Nat}{w y:World}{N:Nat}(h:ai b w y)(hN:w.heap.size<=N)(x0 x1 x2 x3 x4 x5:Value):ai b w ((((((y.setCell ⟨N,0,none⟩ x0).setCell ⟨N,1,none⟩ x1).setCell ⟨N,2,none⟩ x2).setCell ⟨N,3,none⟩ x3).setCell ⟨N,4,none⟩ x4).setCell ⟨N,5,none⟩ x5):=
 (((((h.setNew _ hN _).setNew _ hN _).setNew _ hN _).setNew _ hN _).setNew _ hN _).setNew _ hN _
theorem RS.set6{w:World}{b:Nat}{L:Value}{ts:List Tk}{s:St}{N:Nat}{cs:Array Value}{T:TypeId}{fr:Nat×Nat}(h:RS w b L ts s)(hN:w.heap[N]?=some (.cells cs T fr))(h1:T≠89)(h2:T≠137)(x0 x1 x2 x3 x4 x5:Value):RS ((((((w.setCell ⟨N,0,none⟩ x0).setCell ⟨N,1,none⟩ x1).setCell ⟨N,2,none⟩ x2).setCell ⟨N,3,none⟩ x3).setCell ⟨N,4,none⟩ x4).setCell ⟨N,5,none⟩ x5) b L ts s:=
 (((((h.set hN h1 h2 0 x0).set (aJ hN 0 _) h1 h2 1 x1).set (aJ (aJ hN 0 _) 1 _) h1 h2 2 x2).set (aJ (aJ (aJ hN 0 _) 1 _) 2 _) h1 h2 3 x3).set (aJ (aJ (aJ (aJ hN 0 _) 1 _) 2 _) 3 _) h1 h2 4 x4).set (aJ (aJ (aJ (aJ (aJ hN 0 _) 1 _) 2 _) 3 _) 4 _) h1 h2 5 x5
theorem Fu(w:World)(b:Nat)(L:Value)(ts:List Tk)(s:St)(h:RS w b L ts s):
 Calls prog 38 #[.pointer (some ⟨b,0,none⟩)] w fun e w'=>∃v,e=.returned (.agg #[.int .i64 2,.string (gm s).1.name,.slice none 0 0,v,.bool false,.slice none 0 0])/\w'.ownsRow w.heap.size 9 1 v (gm s).1.Ly.length (bt (gm s).1.Ly)/\(gm s).1.Ly.length<=801/\RS w' b L ts (gm s).2/\ai b w w':=by
 obtain⟨i0,hi,hz0,hz1,hz2⟩:=info_parts info9;have hlt:=h.lt;have hr0:RS ((w.alloc (.cells #[.int .i64 0,.string ⟨#[]⟩,.slice none 0 0,.slice none 0 0,.bool false,.slice none 0 0] 96)).alloc (.cells #[.int .i64 2,.string ⟨#[]⟩,.slice none 0 0,.slice none 0 0,.bool false,.slice none 0 0] 96)) b L ts s:=h.below (di _ _ _);have HR0:=aa (ig w (.cells #[.int .i64 0,.string ⟨#[]⟩,.slice none 0 0,.slice none 0 0,.bool false,.slice none 0 0] 96) (.cells #[.int .i64 2,.string ⟨#[]⟩,.slice none 0 0,.slice none 0 0,.bool false,.slice none 0 0] 96));have HF0:=aa (eo w (.cells #[.int .i64 0,.string ⟨#[]⟩,.slice none 0 0,.slice none 0 0,.bool false,.slice none 0 0] 96) (.cells #[.int .i64 2,.string ⟨#[]⟩,.slice none 0 0,.slice none 0 0,.bool false,.slice none 0 0] 96));have hK0:ai b w ((w.alloc (.cells #[.int .i64 0,.string ⟨#[]⟩,.slice none 0 0,.slice none 0 0,.bool false,.slice none 0 0] 96)).alloc (.cells #[.int .i64 2,.string ⟨#[]⟩,.slice none 0 0,.slice none 0 0,.bool false,.slice none 0 0] 96)):=ai.of_below (di _ _ _);clear h;go_enter func38,ntmps38;go_wp2_with fail;generalize (w.alloc (.cells #[.int .i64 0,.string ⟨#[]⟩,.slice none 0 0,.slice none 0 0,.bool false,.slice none 0 0] 96)).alloc (.cells #[.int .i64 2,.string ⟨#[]⟩,.slice none 0 0,.slice none 0 0,.bool false,.slice none 0 0] 96)=w0 at*;refine(iX w0 b L ts s hr0).mono ?_;rintro e w1 ⟨rfl,hr1,hk1⟩;have HF1:=aa (hk1.at HF0.o (by omega));have HR1:=aa (hk1.at HR0.o (by omega));have hK1:=hK0.trans hk1;clear HF0 HR0 hK0 hr0 hk1;have c0:w1.cell? ⟨w.heap.size+1,1,none⟩=some (.string ⟨#[]⟩):=ae HF1.o 1;have cf:=ar HF1.o 1;go_wp2_with fail;have hr2:=hr1.set HF1.o (by decide) (by decide) 1 (.string (nm s));have HF2:=aa (show(w1.setCell ⟨w.heap.size+1,1,none⟩ (.string (nm s))).heap[w.heap.size+1]?=some (.cells #[.int .i64 2,.string (nm s),.slice none 0 0,.slice none 0 0,.bool false,.slice none 0 0] 96 (0,0))from aJ HF1.o 1 _);have HR2:=aa (dG HR1.o (show w.heap.size≠w.heap.size+1 by omega) 1 (.string (nm s)));have hK2:=hK1.setNew ⟨w.heap.size+1,1,none⟩ (by simp) (.string (nm s));clear c0 cf HF1 HR1 hK1 hr1;generalize w1.setCell ⟨w.heap.size+1,1,none⟩ (.string (nm s))=w2 at*;refine(gQ w2 b L ts (ab s) 10 ⟨#[61]⟩ rfl (by decide) (by decide) hr2).mono ?_;rintro e w3 ⟨rfl,hr3,hk3⟩;have HF3:=aa (hk3.at HF2.o (by omega));have HR3:=aa (hk3.at HR2.o (by omega));have hK3:=hK2.trans hk3;have hln:=hr3.lnle;clear HF2 HR2 hK2 hr2 hk3;have H0:=aa (show gm s=(⟨2,nm s,[],(fg 801 (ak (ab s) (af (ab s) 10))).1,false,[]⟩,(fg 801 (ak (ab s) (af (ab s) 10))).2)from rfl);generalize ak (ab s) (af (ab s) 10)=s2 at*;go_wp2_with fail;go_loopg [4,5] (ln s2) (fun k v4 v5 wr=>∃(LA:List Ls) (vI:Value) (s':St),ln s'<=k/\RS wr b L ts s'/\wr.heap[w.heap.size+1]?=some (.cells #[.int .i64 2,.string (nm s),.slice none 0 0,vI,.bool false,.slice none 0 0] 96 (0,0))/\wr.heap[w.heap.size]?=some (.cells #[.int .i64 0,.string ⟨#[]⟩,.slice none 0 0,.slice none 0 0,.bool false,.slice none 0 0] 96)/\wr.ownsRow (w.heap.size+2) 9 1 vI LA.length (bt LA)/\LA.length+ln s'<=801/\ai b w wr/\gm s=(⟨2,nm s,[],LA++(fg (ln s') s').1,false,[]⟩,(fg (ln s') s').2))
 case atStart=>exact⟨[],_,_,KK _,hr3,HF3.o,HR3.o,K7 _ _ _ _,by simpa using hln,hK3,by rw[H0.o,wU 801 _ hln];simp⟩
 case round=>
  clear HF3 HR3 hK3 hr3 hln H0;obtain⟨LA,vI,s',hlk,hr,hF,hR,LJ,hil,hK,hrel⟩:=hrel;have HF:=aa hF;have HR:=aa hR;have HM:=aa hrel;have c2:=hr.badc;have hF1:=hF;have hR1:=hR;have L7:=LJ;have hK1:=hK;clear hrel hF hR;obtain⟨aI,MB,hvI⟩:=bc LJ;subst hvI;cases hnn:s'.isNone
  ·rw[hnn]at c2
   clear hF1 hR1 L7 hK1;have hl1:=sr s' hnn;have hl2:=lg s' hnn;have HST:=aa (Bq s' hnn);clear hnn;go_wp2_with fail;refine(iX wr b L ts s' hr).mono ?_;rintro e wc ⟨rfl,hr2,hk1⟩;have hF2:=hk1.at HF.o (by omega);have hR2:=hk1.at HR.o (by omega);have hK2:=hK.trans hk1;obtain⟨a0,NJ,q1,_,_⟩:=hr.st;have LL:=gW LJ hk1 q1 (by decide);clear HF HR hK hr hk1 q1 LJ c2;generalize nm s'=y at*;have HF2:=aa hF2;have HR2:=aa hR2;have c1:wc.cell? ⟨w.heap.size+1,3,none⟩=some (.slice aI LA.length MB):=ae hF2 3;have cf1:=ar hF2 3;have hne:=gM LL hF2 (by decide);have MT:=gM LL hR2 (by decide);have hap:=hr2.apart LL (by decide) (by decide);have LP:=LL.lt;have M8:=ag hF2;clear hF2 hR2;go_wp2_with (at_builtin;refine wpList_append_own _ rfl _ _ 50 rfl (w.heap.size+2) 9 i0 _ 1 16 underlying50 hi hz0 hz1 hz2 rfl (by decide) _ _ _ rfl (LL.alloc _) ⟨wc.heap.size,0,none⟩ 1 1 [.string y] rfl rfl (cell_one_new _ _ _) (fun u hu=>by simp at hu;subst hu;rfl) (by unfold maxLen;omega) (by omega) (by simp;omega) ?_;intro v' x3 hown' hgrow _;obtain⟨a',LM,hv'⟩:=bc hown';subst hv';have hF3:=jq hgrow (show(wc.alloc _).heap[w.heap.size+1]?=_ from(bp _ _ _ M8).trans HF2.o) hne;have hc3:=(ae hF3 3:x3.cell? ⟨w.heap.size+1,3,none⟩=some (.slice aI LA.length MB));have hf3:=ar hF3 3;have HF3:=aa hF3;clear hF3);have hr3:=hr2.grown1 hgrow hap;have HR3:=aa (jq hgrow (show(wc.alloc _).heap[w.heap.size]?=_ from(bp _ _ _ (by omega)).trans HR2.o) MT);have hK3:ai b w x3:=(hK2.alloc _).grown hgrow (fun k hk=>by have:=(LP k hk).1;omega);have hr4:=hr3.set HF3.o (by decide) (by decide) 3 (.slice a' (LA.length+1) LM);have HF4:=aa (show(x3.setCell ⟨w.heap.size+1,3,none⟩ (.slice a' (LA.length+1) LM)).heap[w.heap.size+1]?=some (.cells #[.int .i64 2,.string (nm s),.slice none 0 0,(.slice a' (LA.length+1) LM),.bool false,.slice none 0 0] 96 (0,0))from aJ HF3.o 3 _);have HR4:=aa (dG HR3.o (show w.heap.size≠w.heap.size+1 by omega) 3 (.slice a' (LA.length+1) LM));have hK4:=hK3.setNew ⟨w.heap.size+1,3,none⟩ (by simp) (.slice a' (LA.length+1) LM);have L8:=gW hown' ((ai.refl (w.heap.size+1) x3).setCell 3 (.slice a' (LA.length+1) LM)) HF3.o (by decide);clear hc3 hf3 HF3 HR3 hr3 hK3 hown' hgrow hK2 LL hr2 HF2 HR2 c1 cf1 hne MT hap LP M8;generalize x3.setCell ⟨w.heap.size+1,3,none⟩ (.slice a' (LA.length+1) LM)=x4 at*;have hm:=gI x4 b L ts (ab s') 16 ⟨#[124]⟩ rfl (by decide) (by decide) hr4;cases h16:af (ab s') 16
   ·rw[h16]at hm
    have Mf:=aa (show gm s=(⟨2,nm s,[],LA++[y],false,[]⟩,ab s')from by rw[HM.o,HST.o,h16];rfl);clear h16 HST HM;refine hm.mono ?_;clear hm;rintro e x5 ⟨rfl,hr5,hk5⟩;have hr5:RS x5 b L ts (ab s'):=hr5;have hF1:=hk5.at HF4.o (by omega);have hR1:=hk5.at HR4.o (by omega);have hK1:=hK4.trans hk5;obtain⟨a0,NJ,q1,_,_⟩:=hr4.st;have L7:x5.ownsRow (w.heap.size+2) 9 1 (.slice a' (LA.length+1) LM) (LA++[y]).length (bt (LA++[y])):=by
     have:=gW L8 hk5 q1 (by decide);simpa [bt]using this
    have hil2:(LA++[y]).length<=801:=by simp;omega
    clear q1 HF4 HR4 hK4 hr4 L8 hk5;have p0:x5.cell? ⟨w.heap.size+1,0,none⟩=some (.int .i64 2):=ae hF1 0;have r0:x5.cell? ⟨w.heap.size,0,none⟩=some (.int .i64 0):=ae hR1 0;have p1:x5.cell? ⟨w.heap.size+1,1,none⟩=some (.string (nm s)):=ae hF1 1;have r1:x5.cell? ⟨w.heap.size,1,none⟩=some (.string ⟨#[]⟩):=ae hR1 1;have p2:x5.cell? ⟨w.heap.size+1,2,none⟩=some (.slice none 0 0):=ae hF1 2;have r2:x5.cell? ⟨w.heap.size,2,none⟩=some (.slice none 0 0):=ae hR1 2;have p3:x5.cell? ⟨w.heap.size+1,3,none⟩=some (.slice a' (LA.length+1) LM):=ae hF1 3;have r3:x5.cell? ⟨w.heap.size,3,none⟩=some (.slice none 0 0):=ae hR1 3;have p4:x5.cell? ⟨w.heap.size+1,4,none⟩=some (.bool false):=ae hF1 4;have r4:x5.cell? ⟨w.heap.size,4,none⟩=some (.bool false):=ae hR1 4;have p5:x5.cell? ⟨w.heap.size+1,5,none⟩=some (.slice none 0 0):=ae hF1 5;have r5:x5.cell? ⟨w.heap.size,5,none⟩=some (.slice none 0 0):=ae hR1 5;have rf:∀j,x5.frozen? ⟨w.heap.size,j,none⟩=false:=fun j=>ar hR1 j;have HZ1:=aa (hr5.set6 hR1 (by decide) (by decide) (.int .i64 2) (.string (nm s)) (.slice none 0 0) (.slice a' (LA.length+1) LM) (.bool false) (.slice none 0 0));have HZ2:=aa (vG hK1 (KK _) (.int .i64 2) (.string (nm s)) (.slice none 0 0) (.slice a' (LA.length+1) LM) (.bool false) (.slice none 0 0));have HZ3:=aa (uB L7 hR1 (by decide) (.int .i64 2) (.string (nm s)) (.slice none 0 0) (.slice a' (LA.length+1) LM) (.bool false) (.slice none 0 0));clear hF1 hR1;go_wp2_with fail;refine bodyPost_ret (v:=.agg #[.int .i64 2,.string (nm s),.slice none 0 0,.slice a' (LA.length+1) LM,.bool false,.slice none 0 0]) (by simp[results,results38,go_sem,r0,r1,r2,r3,r4,r5]) rfl ⟨_,by rw[Mf.o],?_,by rw[Mf.o];simp only;omega,by rw[Mf.o];exact HZ1.o,HZ2.o⟩;rw[Mf.o];exact iJ HZ3.o (by omega)
   ·rw[h16]at hm
    have HL:=aa (show gm s=(⟨2,nm s,[],(LA++[y])++(fg (ln (tl (ab s'))) (tl (ab s'))).1,false,[]⟩,(fg (ln (tl (ab s'))) (tl (ab s'))).2)from by rw[HM.o,HST.o,h16];simp);clear h16 HST HM;refine hm.mono ?_;clear hm;rintro e x5 ⟨rfl,hr5,hk5⟩;have HF5:=aa (hk5.at HF4.o (by omega));have HR5:=aa (hk5.at HR4.o (by omega));have hK5:=hK4.trans hk5;obtain⟨a0,NJ,q1,_,_⟩:=hr4.st;have LV:=gW L8 hk5 q1 (by decide);clear q1 HF4 HR4 hK4 hr4 L8 hk5;go_wp2_with fail;go_roundg (ln (tl (ab s')))
    case measure=>omega
    case rel=>exact⟨LA++[y],_,tl (ab s'),KK _,hr5,HF5.o,HR5.o,by simpa [bt]using LV,by simp;omega,hK5,HL.o⟩
  ·rw[hnn]at c2
   have Mf:=aa (show gm s=(⟨2,nm s,[],LA,false,[]⟩,s')from by rw[HM.o,vp s' hnn];simp);clear hnn;have p0:wr.cell? ⟨w.heap.size+1,0,none⟩=some (.int .i64 2):=ae hF1 0;have r0:wr.cell? ⟨w.heap.size,0,none⟩=some (.int .i64 0):=ae hR1 0;have p1:wr.cell? ⟨w.heap.size+1,1,none⟩=some (.string (nm s)):=ae hF1 1;have r1:wr.cell? ⟨w.heap.size,1,none⟩=some (.string ⟨#[]⟩):=ae hR1 1;have p2:wr.cell? ⟨w.heap.size+1,2,none⟩=some (.slice none 0 0):=ae hF1 2;have r2:wr.cell? ⟨w.heap.size,2,none⟩=some (.slice none 0 0):=ae hR1 2;have p3:wr.cell? ⟨w.heap.size+1,3,none⟩=some (.slice aI LA.length MB):=ae hF1 3;have r3:wr.cell? ⟨w.heap.size,3,none⟩=some (.slice none 0 0):=ae hR1 3;have p4:wr.cell? ⟨w.heap.size+1,4,none⟩=some (.bool false):=ae hF1 4;have r4:wr.cell? ⟨w.heap.size,4,none⟩=some (.bool false):=ae hR1 4;have p5:wr.cell? ⟨w.heap.size+1,5,none⟩=some (.slice none 0 0):=ae hF1 5;have r5:wr.cell? ⟨w.heap.size,5,none⟩=some (.slice none 0 0):=ae hR1 5;have rf:∀j,wr.frozen? ⟨w.heap.size,j,none⟩=false:=fun j=>ar hR1 j;have HZ1:=aa (hr.set6 hR1 (by decide) (by decide) (.int .i64 2) (.string (nm s)) (.slice none 0 0) (.slice aI LA.length MB) (.bool false) (.slice none 0 0));have HZ2:=aa (vG hK1 (KK _) (.int .i64 2) (.string (nm s)) (.slice none 0 0) (.slice aI LA.length MB) (.bool false) (.slice none 0 0));have HZ3:=aa (uB L7 hR1 (by decide) (.int .i64 2) (.string (nm s)) (.slice none 0 0) (.slice aI LA.length MB) (.bool false) (.slice none 0 0));clear hF1 hR1;go_wp2_with fail;refine bodyPost_ret (v:=.agg #[.int .i64 2,.string (nm s),.slice none 0 0,.slice aI LA.length MB,.bool false,.slice none 0 0]) (by simp[results,results38,go_sem,r0,r1,r2,r3,r4,r5]) rfl ⟨_,by rw[Mf.o],?_,by rw[Mf.o];simp only;omega,by rw[Mf.o];exact HZ1.o,HZ2.o⟩;rw[Mf.o];exact iJ HZ3.o (by omega)
end Go.Proofs.YtgbloieahmkcjaaGreat
