import Derived.Test.YtgbloieahmkcjaaGreatC07
import Derived.Deep.CutBlock
namespace Go.Proofs.YtgbloieahmkcjaaGreat
set_option maxHeartbeats 20000000
set_option maxRecDepth 100000
open Go.RowKit Tryz
def m8:Ls:=aE [105,109,112,108,101,109,101,110,116,115]
def jm:Ls:=aE [114,111,119,115]
def fV:Nat->St->List Ls×St
 |0,s=>([],s)
 |f+1,s=>if s.isNone=true then([],s)else
  if af (ab s) 1=true then(nm s::(fV f (ab s)).1,(fV f (ab s)).2)else([nm s],ab s)
def lP(s:St):List Ls×St:=if aq s m8=true then fV 801 (tl s)else([],s)
def iy:St->St->List Tk
 |some l,some l'=>l.take (l.length-l'.length)
 |_,_=>[]
def jo(s:St):List Tk×St:=
 if af s 11=true then
  let s4:=ak (tl s) (aq (tl s) jm)
  let s5:=ak s4 (af s4 7)
  (iy s5 (ja s5),ak (ja s5) (af (ja s5) 8))
 else([],s)
def fY(s:St):ap×St:=
 let p:=lP (ab s)
 let q:=jo p.2
 (⟨0,nm s,(gy q.2).1,p.1,af p.2 11,q.1⟩,(gy q.2).2)
theorem xr:∀(f:Nat) (s:St),ln s<=f->fV f s=fV (ln s) s:=by
 intro f
 induction f using Nat.strongRecOn with
 |_ f ih=>
  intro s hl
  match f,s,hl with
  |f,none,hl=>
   match f with
   |0=>rfl
   |f+1=>rfl
  |0,some l,hl=>simp[ln]at hl
  |f+1,some l,hl=>
   show fV (f+1) (some l)=fV (l.length+1) (some l);have hl':l.length<=f:=by simpa [ln]using hl
   have h1:ln (some l)=l.length+1:=rfl;have h0:=lg (some l) rfl;simp only[fV];have e:fV f (ab (some l))=fV l.length (ab (some l)):=by
    rw[ih f (by omega) _ (by omega)];by_cases e:l.length=f
    ·rw[e,ih f (by omega) _ (by omega)]
    ·rw[ih l.length (by omega) _ (by omega)]
   rw[e]
theorem uY(s:St)(h:s.isNone=true):fV (ln s) s=([],s):=by
 match s,h with
 |none,_=>rfl
theorem z8(s:St)(h:s.isNone=false):fV (ln s) s=if af (ab s) 1=true then(nm s::(fV (ln (ab s)) (ab s)).1,(fV (ln (ab s)) (ab s)).2)else([nm s],ab s):=by
 have h0:=lg s h
 match s,h,h0 with
 |some l,h,h0=>
  have h1:ln (some l)=l.length+1:=rfl;rw[h1]at h0⊢;rw[<-xr l.length _ (by omega)];rfl
theorem I4(s:St):af s 1=decide (rk (hd s).k=1):=by
 unfold af;rw[Bool.eq_iff_iff];simp only[beq_iff_eq,Lc];exact(mW _).symm
theorem RS.keepOwn{w w':World}{b:Nat}{L:Value}{ts:List Tk}{s:St}{base n size:Nat}{e:TypeId}{v:Value}{xs:List Value}(h:RS w b L ts s)(hk:ai b w w')(ho:w.ownsRow base e size v n xs)(he:(89:TypeId)≠e):w'.ownsRow base e size v n xs:=by
 obtain⟨a0,NJ,q1,_,_⟩:=h.st;exact gW ho hk q1 he
theorem Hg(w:World)(N:Nat)(x0 x1 x2 x3 x4 x5:Value):ai N w ((((((w.setCell ⟨N,0,none⟩ x0).setCell ⟨N,1,none⟩ x1).setCell ⟨N,2,none⟩ x2).setCell ⟨N,3,none⟩ x3).setCell ⟨N,4,none⟩ x4).setCell ⟨N,5,none⟩ x5):=
 ((((((ai.refl N w).setCell 0 x0).setCell 1 x1).setCell 2 x2).setCell 3 x3).setCell 4 x4).setCell 5 x5
theorem RS.pos{w:World}{b:Nat}{L:Value}{ts:List Tk}{s:St}{k:Nat}(h:RS w b L ts s)(hk:k≠0)(hs:af s k=true):0<ts.length:=by
 obtain⟨a,bad,h1,h2,h3⟩:=h.st;cases bad with
 |true=>rw[h3]at hs;rw[K9 rfl,eP k hk]at hs;cases hs
 |false=>
  rcases Nat.eq_zero_or_pos ts.length with e|e
  ·have:ts=[]:=KZ e
   rw[h3,this]at hs;simp only[List.drop_nil,Lj,if_false]at hs;rw[nN k hk]at hs;cases hs
  ·exact e
theorem Ab:∀(ts:List Tk) (a:Nat),eF (ts.drop a)=(eF ts).drop (a*3)
 |ts,0=>by simp
 |[],a+1=>by simp[eF]
 |t::ts,a+1=>by
  rw[List.drop_succ_cons,Ab ts a,show(a+1)*3=3+a*3 by omega,<-List.drop_drop];rfl
theorem A5:∀(ts:List Tk) (a:Nat),eF (ts.take a)=(eF ts).take (a*3)
 |ts,0=>by simp[eF]
 |[],a+1=>by simp[eF]
 |t::ts,a+1=>by
  rw[List.take_succ_cons,show(a+1)*3=a*3+1+1+1 by omega];show kP t++eF (ts.take a)=_;rw[A5 ts a];rfl
theorem G3{cur:List Value}{ts:List Tk}{a5 a6:Nat}(h:cur.take (ts.length*3)=eF ts)(h1:a5<=a6)(h2:a6<=ts.length):(cur.drop (a5*3)).take ((a6-a5)*3)=eF ((ts.drop a5).take (a6-a5)):=by
 rw[A5,Ab,<-h,List.drop_take,List.take_take];congr 1;omega
theorem RS.keepTok{w w':World}{b:Nat}{L:Value}{ts:List Tk}{s:St}{v:Value}{l:List Tk}(h:RS w b L ts s)(hk:ai b w w')(ho:ff w v l):ff w' v l:=by
 obtain⟨a0,NJ,q1,_,_⟩:=h.st;exact ho.keep hk q1 (by decide)
theorem Hu(w:World)(b:Nat)(L:Value)(ts:List Tk)(s:St)(h:RS w b L ts s):
 Calls prog 36 #[.pointer (some ⟨b,0,none⟩)] w fun e w'=>∃vF vA vR,e=.returned (.agg #[.int .i64 0,.string (fY s).1.name,vF,vA,.bool (fY s).1.LC,vR])/\w'.ownsRow w.heap.size 121 5 vF (fY s).1.fields.length (nu (fY s).1.fields)/\w'.ownsRow w.heap.size 9 1 vA (fY s).1.Ly.length (bt (fY s).1.Ly)/\ff w' vR (fY s).1.Lw/\RS w' b L ts (fY s).2/\ai b w w':=by
 obtain⟨i0,hi,hz0,hz1,hz2⟩:=info_parts info9;have hlt:=h.lt;have hr0:RS ((w.alloc (.cells #[.int .i64 0,.string ⟨#[]⟩,.slice none 0 0,.slice none 0 0,.bool false,.slice none 0 0] 96)).alloc (.cells #[.int .i64 0,.string ⟨#[]⟩,.slice none 0 0,.slice none 0 0,.bool false,.slice none 0 0] 96)) b L ts s:=h.below (di _ _ _);have HR0:=aa (ig w (.cells #[.int .i64 0,.string ⟨#[]⟩,.slice none 0 0,.slice none 0 0,.bool false,.slice none 0 0] 96) (.cells #[.int .i64 0,.string ⟨#[]⟩,.slice none 0 0,.slice none 0 0,.bool false,.slice none 0 0] 96));have HF0:=aa (eo w (.cells #[.int .i64 0,.string ⟨#[]⟩,.slice none 0 0,.slice none 0 0,.bool false,.slice none 0 0] 96) (.cells #[.int .i64 0,.string ⟨#[]⟩,.slice none 0 0,.slice none 0 0,.bool false,.slice none 0 0] 96));have hK0:ai b w ((w.alloc (.cells #[.int .i64 0,.string ⟨#[]⟩,.slice none 0 0,.slice none 0 0,.bool false,.slice none 0 0] 96)).alloc (.cells #[.int .i64 0,.string ⟨#[]⟩,.slice none 0 0,.slice none 0 0,.bool false,.slice none 0 0] 96)):=ai.of_below (di _ _ _);clear h;go_enter func36,ntmps36;go_wp2_with fail;generalize (w.alloc (.cells #[.int .i64 0,.string ⟨#[]⟩,.slice none 0 0,.slice none 0 0,.bool false,.slice none 0 0] 96)).alloc (.cells #[.int .i64 0,.string ⟨#[]⟩,.slice none 0 0,.slice none 0 0,.bool false,.slice none 0 0] 96)=w0 at*;refine(iX w0 b L ts s hr0).mono ?_;rintro e w1 ⟨rfl,hr1,hk1⟩;have HF1:=aa (hk1.at HF0.o (by omega));have HR1:=aa (hk1.at HR0.o (by omega));have hK1:=hK0.trans hk1;clear HF0 HR0 hK0 hr0 hk1;have c0:w1.cell? ⟨w.heap.size+1,1,none⟩=some (.string ⟨#[]⟩):=ae HF1.o 1;have cf:=ar HF1.o 1;go_wp2_with fail;have hr2:=hr1.set HF1.o (by decide) (by decide) 1 (.string (nm s));have HF2:=aa (show(w1.setCell ⟨w.heap.size+1,1,none⟩ (.string (nm s))).heap[w.heap.size+1]?=some (.cells #[.int .i64 0,.string (nm s),.slice none 0 0,.slice none 0 0,.bool false,.slice none 0 0] 96 (0,0))from aJ HF1.o 1 _);have HR2:=aa (dG HR1.o (show w.heap.size≠w.heap.size+1 by omega) 1 (.string (nm s)));have hK2:=hK1.setNew ⟨w.heap.size+1,1,none⟩ (by simp) (.string (nm s));clear c0 cf HF1 HR1 hK1 hr1;generalize w1.setCell ⟨w.heap.size+1,1,none⟩ (.string (nm s))=w2 at*;refine(mi w2 b L ts (ab s) ⟨#[105,109,112,108,101,109,101,110,116,115]⟩ hr2).mono ?_;rw[show aq (ab s) ⟨#[105,109,112,108,101,109,101,110,116,115]⟩=aq (ab s) m8 from rfl];rintro e w3 ⟨rfl,hr3,hk3⟩;have HF3:=aa (hk3.at HF2.o (by omega));have HR3:=aa (hk3.at HR2.o (by omega));have hK3:=hK2.trans hk3;have hln:=hr3.lnle;clear HF2 HR2 hK2 hr2 hk3;have H0:=aa (show lP (ab s)=if aq (ab s) m8=true then fV 801 (tl (ab s))else([],ab s)from rfl);generalize aq (ab s) m8=ok0 at*
 go_upto_block 0 with fail
 go_cut [4,5,6] (fun v4 v5 v6 wc=>∃(abv:List Ls) (aA:Option Addr) (MO:Nat) (s2:St),RS wc b L ts s2/\wc.heap[w.heap.size+1]?=some (.cells #[.int .i64 0,.string (nm s),.slice none 0 0,.slice aA abv.length MO,.bool false,.slice none 0 0] 96 (0,0))/\wc.heap[w.heap.size]?=some (.cells #[.int .i64 0,.string ⟨#[]⟩,.slice none 0 0,.slice none 0 0,.bool false,.slice none 0 0] 96)/\wc.ownsRow (w.heap.size+2) 9 1 (.slice aA abv.length MO) abv.length (bt abv)/\abv.length<=801/\ai b w wc/\lP (ab s)=(abv,s2))
 case first=>
  go_wp2_with fail;go_loopg [4,5,6] (ln (ec (ab s) ok0)) (fun k v4 v5 v6 wr=>∃(ok:Bool) (LA:List Ls) (vI:Value) (s':St),v4=.bool ok/\ln s'<=k/\RS wr b L ts s'/\wr.heap[w.heap.size+1]?=some (.cells #[.int .i64 0,.string (nm s),.slice none 0 0,vI,.bool false,.slice none 0 0] 96 (0,0))/\wr.heap[w.heap.size]?=some (.cells #[.int .i64 0,.string ⟨#[]⟩,.slice none 0 0,.slice none 0 0,.bool false,.slice none 0 0] 96)/\wr.ownsRow (w.heap.size+2) 9 1 vI LA.length (bt LA)/\LA.length+ln s'<=801/\ai b w wr/\lP (ab s)=if ok=true then(LA++(fV (ln s') s').1,(fV (ln s') s').2)else(LA,s'))
  case atStart=>exact⟨ok0,[],_,_,rfl,KK _,hr3,HF3.o,HR3.o,K7 _ _ _ _,by simpa using hln,hK3,by
   rw[H0.o];cases ok0
   ·rfl
   ·simp only[if_true,List.nil_append,ec];rw[xr 801 _ (by simpa [ec]using hln)]⟩
  case round=>
   clear HF3 HR3 hK3 hr3 hln H0;obtain⟨ok,LA,vI,s',rfl,hlk,hr,hF,hR,LJ,hil,hK,hrel⟩:=hrel;have HF:=aa hF;have HR:=aa hR;have HM:=aa hrel;have c2:=hr.badc;clear hrel hF hR;obtain⟨aI,MB,hvI⟩:=bc LJ;subst hvI;cases ok
   ·have Mf:=aa (show lP (ab s)=(LA,s')from HM.o)
    go_wp2_with fail;go_meet;exact⟨LA,aI,MB,s',hr,HF.o,HR.o,LJ,by omega,hK,Mf.o⟩
   ·cases hnn:s'.isNone
    ·rw[hnn]at c2
     have hl1:=lg s' hnn;have HST:=aa (z8 s' hnn);clear hnn;go_wp2_with fail;refine(iX wr b L ts s' hr).mono ?_;rintro e wx ⟨rfl,hr2,hk1⟩;have hF2:=hk1.at HF.o (by omega);have hR2:=hk1.at HR.o (by omega);have hK2:=hK.trans hk1;have LL:=hr.keepOwn hk1 LJ (by decide);clear HF HR hK hr hk1 LJ c2;generalize nm s'=y at*;generalize ab s'=s1 at*;have HF2:=aa hF2;have HR2:=aa hR2;have c1:wx.cell? ⟨w.heap.size+1,3,none⟩=some (.slice aI LA.length MB):=ae hF2 3;have cf1:=ar hF2 3;have hne:=gM LL hF2 (by decide);have MT:=gM LL hR2 (by decide);have hap:=hr2.apart LL (by decide) (by decide);have LP:=LL.lt;have M8:=ag hF2;clear hF2 hR2;go_wp2_with (at_builtin;refine wpList_append_own _ rfl _ _ 50 rfl (w.heap.size+2) 9 i0 _ 1 16 underlying50 hi hz0 hz1 hz2 rfl (by decide) _ _ _ rfl (LL.alloc _) ⟨wx.heap.size,0,none⟩ 1 1 [.string y] rfl rfl (cell_one_new _ _ _) (fun u hu=>by simp at hu;subst hu;rfl) (by unfold maxLen;omega) (by omega) (by simp;omega) ?_;intro v' x3 hown' hgrow _;obtain⟨a',LM,hv'⟩:=bc hown';subst hv';have hF3:=jq hgrow (show(wx.alloc _).heap[w.heap.size+1]?=_ from(bp _ _ _ M8).trans HF2.o) hne;have hc3:=(ae hF3 3:x3.cell? ⟨w.heap.size+1,3,none⟩=some (.slice aI LA.length MB));have hf3:=ar hF3 3;have HF3:=aa hF3;clear hF3);have hr3:=hr2.grown1 hgrow hap;have HR3:=aa (jq hgrow (show(wx.alloc _).heap[w.heap.size]?=_ from(bp _ _ _ (by omega)).trans HR2.o) MT);have hK3:ai b w x3:=(hK2.alloc _).grown hgrow (fun k hk=>by have:=(LP k hk).1;omega);have hr4:=hr3.set HF3.o (by decide) (by decide) 3 (.slice a' (LA.length+1) LM);have HF4:=aa (show(x3.setCell ⟨w.heap.size+1,3,none⟩ (.slice a' (LA.length+1) LM)).heap[w.heap.size+1]?=some (.cells #[.int .i64 0,.string (nm s),.slice none 0 0,(.slice a' (LA.length+1) LM),.bool false,.slice none 0 0] 96 (0,0))from aJ HF3.o 3 _);have HR4:=aa (dG HR3.o (show w.heap.size≠w.heap.size+1 by omega) 3 (.slice a' (LA.length+1) LM));have hK4:=hK3.setNew ⟨w.heap.size+1,3,none⟩ (by simp) (.slice a' (LA.length+1) LM);have L8:=gW hown' ((ai.refl (w.heap.size+1) x3).setCell 3 (.slice a' (LA.length+1) LM)) HF3.o (by decide);clear hc3 hf3 HF3 HR3 hr3 hK3 hown' hgrow hK2 LL hr2 HF2 HR2 c1 cf1 hne MT hap LP M8;generalize x3.setCell ⟨w.heap.size+1,3,none⟩ (.slice a' (LA.length+1) LM)=x4 at*;have HOK:=aa (I4 s1);have hp:=vZ x4 b L ts s1 hr4;generalize rk (hd s1).k=k1 at*;generalize rs (hd s1)=z at*;generalize (hd s1).n=n1 at*;refine hp.mono ?_;clear hp;rintro e x5 ⟨rfl,hb5⟩;have hr6:=(hr4.below hb5).below ((KL _ _).alloc (KK _) (.cells #[.int .i64 k1,.string z,.int .i64 n1] 137));have HF6:=aa ((bp x5 (.cells #[.int .i64 k1,.string z,.int .i64 n1] 137) _ (by have:=ag HF4.o;have:=hb5.size;omega)).trans ((hb5.block _ (ag HF4.o)).trans HF4.o));have HR6:=aa ((bp x5 (.cells #[.int .i64 k1,.string z,.int .i64 n1] 137) _ (by have:=ag HR4.o;have:=hb5.size;omega)).trans ((hb5.block _ (ag HR4.o)).trans HR4.o));have hK6:=(hK4.trans (ai.of_below hb5)).alloc (.cells #[.int .i64 k1,.string z,.int .i64 n1] 137);have Mt:=(bZ L8 hb5).alloc (.cells #[.int .i64 k1,.string z,.int .i64 n1] 137);have HL:=aa (show lP (ab s)=if af s1 1=true then((LA++[y])++(fV (ln s1) s1).1,(fV (ln s1) s1).2)else(LA++[y],s1)from by
      rw[HM.o,HST.o];simp only[if_true];split<;>simp)
     clear hr4 HF4 HR4 hK4 L8 hb5 HM HST;by_cases e1:k1=1
     ·have t1:((k1:Int)==1)=true:=by simp;omega
      have HO:=aa (show af s1 1=true from by rw[HOK.o,e1];rfl);clear e1;go_wp2_with fail;go_roundg (ln s1)
      case measure=>omega
      case rel=>exact⟨true,LA++[y],_,s1,rfl,KK _,hr6,HF6.o,HR6.o,by simpa [bt]using Mt,by simp;omega,hK6,by rw[HL.o,HO.o]⟩
     ·have t1:((k1:Int)==1)=false:=by simp;omega
      have HO:=aa (show af s1 1=false from by rw[HOK.o,KT e1]);clear e1;go_wp2_with fail;go_roundg (ln s1)
      case measure=>omega
      case rel=>exact⟨false,LA++[y],_,s1,rfl,KK _,hr6,HF6.o,HR6.o,by simpa [bt]using Mt,by simp;omega,hK6,by rw[HL.o,HO.o]⟩
    ·rw[hnn]at c2
     have Mf:=aa (show lP (ab s)=(LA,s')from by rw[HM.o,uY s' hnn];simp);clear hnn;go_wp2_with fail;go_meet;exact⟨LA,aI,MB,s',hr,HF.o,HR.o,LJ,by omega,hK,Mf.o⟩
 case rest=>
  clear HF3 HR3 hK3 hr3 hln H0;obtain⟨abv,aA,MO,s2,hr,hF,hR,LJ,hal,hK,himp⟩:=hcut;have HIMP:=aa himp;have HF:=aa hF;have HR:=aa hR;clear himp hF hR;go_wp2_with fail;refine(gI wc b L ts s2 11 ⟨#[64]⟩ rfl (by decide) (by decide) hr).mono ?_;rintro e w1 ⟨rfl,hr1,hk1⟩;have HF1:=aa (hk1.at HF.o (by omega));have HR1:=aa (hk1.at HR.o (by omega));have hK1:=hK.trans hk1;have L7:=hr.keepOwn hk1 LJ (by decide);have HPOS:=aa (show af s2 11=true->0<ts.length from fun h=>hr.pos (by decide) h);clear HF HR hK hk1 LJ hr;have c0:w1.cell? ⟨w.heap.size+1,4,none⟩=some (.bool false):=ae HF1.o 4;have cf:=ar HF1.o 4;have hr2:=hr1.set HF1.o (by decide) (by decide) 4 (.bool (af s2 11));have hF2:=(show(w1.setCell ⟨w.heap.size+1,4,none⟩ (.bool (af s2 11))).heap[w.heap.size+1]?=some (.cells #[.int .i64 0,.string (nm s),.slice none 0 0,.slice aA abv.length MO,.bool (af s2 11),.slice none 0 0] 96 (0,0))from aJ HF1.o 4 _);have HF2:=aa hF2;have c4:(w1.setCell ⟨w.heap.size+1,4,none⟩ (.bool (af s2 11))).cell? ⟨w.heap.size+1,4,none⟩=some (.bool (af s2 11)):=ae hF2 4;have HR2:=aa (dG HR1.o (show w.heap.size≠w.heap.size+1 by omega) 4 (.bool (af s2 11)));have hK2:=hK1.setNew ⟨w.heap.size+1,4,none⟩ (by simp) (.bool (af s2 11));have LL:=gW L7 ((ai.refl (w.heap.size+1) w1).setCell 4 (.bool (af s2 11))) HF1.o (by decide);clear HF1 HR1 hK1 hr1 L7 hF2
  go_upto_if 39 with fail
  generalize w1.setCell ⟨w.heap.size+1,4,none⟩ (.bool (af s2 11))=w2 at*;clear c0 cf c4;go_cut [7] (fun v7 wd=>∃(aR:Option Addr) (MI:Nat) (rl:List Tk) (s7:St),RS wd b L ts s7/\wd.heap[w.heap.size+1]?=some (.cells #[.int .i64 0,.string (nm s),.slice none 0 0,.slice aA abv.length MO,.bool (af s2 11),.slice aR rl.length MI] 96 (0,0))/\wd.heap[w.heap.size]?=some (.cells #[.int .i64 0,.string ⟨#[]⟩,.slice none 0 0,.slice none 0 0,.bool false,.slice none 0 0] 96)/\wd.ownsRow (w.heap.size+2) 9 1 (.slice aA abv.length MO) abv.length (bt abv)/\ff wd (.slice aR rl.length MI) rl/\ai b w wd/\jo s2=(rl,s7))
  case first=>
   cases h11:af s2 11
   ·rw[h11]at hr2
    have HX:=aa (show jo s2=([],s2)from by unfold jo;rw[h11];rfl);clear h11;go_wp2_with fail;go_meet;exact⟨none,0,[],s2,hr2,HF2.o,HR2.o,LL,Or.inl ⟨rfl,rfl⟩,hK2,HX.o⟩
   ·rw[h11]at hr2
    have hr2:RS w2 b L ts (tl s2):=hr2;have HX:=aa (show jo s2=(iy (ak (ak (tl s2) (aq (tl s2) jm)) (af (ak (tl s2) (aq (tl s2) jm)) 7)) (ja (ak (ak (tl s2) (aq (tl s2) jm)) (af (ak (tl s2) (aq (tl s2) jm)) 7))),ak (ja (ak (ak (tl s2) (aq (tl s2) jm)) (af (ak (tl s2) (aq (tl s2) jm)) 7))) (af (ja (ak (ak (tl s2) (aq (tl s2) jm)) (af (ak (tl s2) (aq (tl s2) jm)) 7))) 8))from by unfold jo;rw[K9 h11]);have HTL:=aa (HPOS.o h11);clear h11;go_wp2_with fail;refine(DF w2 b L ts (tl s2) ⟨#[114,111,119,115]⟩ hr2).mono ?_;rw[show aq (tl s2) ⟨#[114,111,119,115]⟩=aq (tl s2) jm from rfl];rintro e x1 ⟨rfl,hr3,hk3⟩;generalize ak (tl s2) (aq (tl s2) jm)=s4 at*;go_wp2_with fail;refine(gQ x1 b L ts s4 7 ⟨#[40]⟩ rfl (by decide) (by decide) hr3).mono ?_;rintro e x2 ⟨rfl,hr4,hk4⟩;generalize ak s4 (af s4 7)=s5 at*;have HF4:=aa ((hk3.trans hk4).at HF2.o (by omega));have HR4:=aa ((hk3.trans hk4).at HR2.o (by omega));have hK4:=(hK2.trans hk3).trans hk4;have L8:=hr3.keepOwn hk4 (hr2.keepOwn hk3 LL (by decide)) (by decide);clear HF2 HR2 hK2 LL hr3 hr2 hk3 hk4;obtain⟨a5,bad5,q1,q2,q3⟩:=hr4.st;have ca:x2.cell? ⟨b,1,none⟩=some (.int .i64 a5):=ae q1 1;have Q3:=aa q3;clear q1 q3;go_wp2_with fail;refine(Ig x2 b L ts s5 hr4).mono ?_;rintro e x3 ⟨rfl,hr5,hk5⟩;have hF5:=hk5.at HF4.o (by omega);have HF5:=aa hF5;have HR5:=aa (hk5.at HR4.o (by omega));have hK5:=hK4.trans hk5;have LV:=hr4.keepOwn hk5 L8 (by decide);have hle:=pG 801 s5;have HLE:=aa (show ln (ja s5)<=ln s5 from hle);clear HF4 HR4 hK4 L8 hr4 hk5 ca hle;generalize hs6:ja s5=s6 at*;have HS6:=aa hs6;clear hs6;have c2:=hr5.badc;cases hnn:s6.isNone
    ·rw[hnn]at c2
     obtain⟨a6,bad6,p1,p2,p3⟩:=hr5.st;have hb6:bad6=false:=by cases bad6;rfl;rw[p3]at hnn;cases hnn
     subst hb6;have e6:s6=some (ts.drop a6):=p3;have hb5:bad5=false:=by
      cases bad5
      ·rfl
      ·have:s5=none:=Q3.o
       have h9:=HLE.o;rw[this,e6]at h9;simp[ln]at h9
     have e5:s5=some (ts.drop a5):=by rw[Q3.o,hb5];rfl
     have hle:a5<=a6:=by
      have h9:=HLE.o;rw[e5,e6]at h9;simp[ln]at h9;omega
     have HEAT:=aa (show iy s5 s6=(ts.drop a5).take (a6-a5)from by
      rw[e5,e6];simp only[iy,List.length_drop];congr 1;omega)
     have Me:=hr5.len;have Ma:=hr5.row;have b0:=ae p1 0;have b1:x3.cell? ⟨b,1,none⟩=some (.int .i64 a6):=ae p1 1;have g5:x3.cell? ⟨w.heap.size+1,5,none⟩=some (.slice none 0 0):=ae hF5 5;have gf:=ar hF5 5;have htl:=HTL.o;clear Q3 p1 p3 e5 e6 hnn HLE hb5 hF5;rcases Ma.2 with⟨hv,h0⟩|⟨g,cap,cur,hv,hg,hh,hn1,hn2,hn3,hn4⟩
     ·omega
     ·subst hv
      have b0:x3.cell? ⟨b,0,none⟩=some (.slice (some ⟨g,0,none⟩) ts.length cap):=b0;have hrl:((ts.drop a5).take (a6-a5)).length=a6-a5:=by simp;omega
      have HTC:=aa (G3 hn4 hle p2);have HH:=aa hh;have hrw:∀v,RS ((x3.setCell ⟨w.heap.size+1,5,none⟩ v).drew) b (.slice (some ⟨g,0,none⟩) ts.length cap) ts s6:=fun v=>(hr5.set HF5.o (by decide) (by decide) 5 v).below (KL _ _).drew;have hFw:∀v,((x3.setCell ⟨w.heap.size+1,5,none⟩ v).drew).heap[w.heap.size+1]?=some (.cells #[.int .i64 0,.string (nm s),.slice none 0 0,.slice aA abv.length MO,.bool (af s2 11),v] 96 (0,0)):=fun v=>aJ HF5.o 5 v;have hRw:∀v,((x3.setCell ⟨w.heap.size+1,5,none⟩ v).drew).heap[w.heap.size]?=some (.cells #[.int .i64 0,.string ⟨#[]⟩,.slice none 0 0,.slice none 0 0,.bool false,.slice none 0 0] 96):=fun v=>dG HR5.o (show w.heap.size≠w.heap.size+1 by omega) 5 v;have hKw:∀v,ai b w ((x3.setCell ⟨w.heap.size+1,5,none⟩ v).drew):=fun v=>(hK5.setNew ⟨w.heap.size+1,5,none⟩ (by simp) v).drew;have hOw:∀v,((x3.setCell ⟨w.heap.size+1,5,none⟩ v).drew).ownsRow (w.heap.size+2) 9 1 (.slice aA abv.length MO) abv.length (bt abv):=fun v=>(gW LV ((ai.refl (w.heap.size+1) x3).setCell 5 v) HF5.o (by decide)).drew;have hHw:∀v,((x3.setCell ⟨w.heap.size+1,5,none⟩ v).drew).heap[g]?=some (.cells cur 137 (0,0)):=fun v=>dG HH.o (fun e=>by subst e;have:=HF5.o;rw[HH.o]at this;cases this) 5 v;have HW:=aa (And.intro hrw (And.intro hFw (And.intro hRw (And.intro hKw (And.intro hOw hHw)))));clear hrw hFw hRw hKw hOw hHw hh hn4;generalize hrl0:(ts.drop a5).take (a6-a5)=rl at*;clear hrl0;have fin:∀(aR:Option Addr) (MI:Nat) (wz:World),RS wz b (.slice (some ⟨g,0,none⟩) ts.length cap) ts s6->wz.heap[w.heap.size+1]?=some (.cells #[.int .i64 0,.string (nm s),.slice none 0 0,.slice aA abv.length MO,.bool (af s2 11),.slice aR rl.length MI] 96 (0,0))->wz.heap[w.heap.size]?=some (.cells #[.int .i64 0,.string ⟨#[]⟩,.slice none 0 0,.slice none 0 0,.bool false,.slice none 0 0] 96)->wz.ownsRow (w.heap.size+2) 9 1 (.slice aA abv.length MO) abv.length (bt abv)->ff wz (.slice aR rl.length MI) rl->ai b w wz->∀(wy:World),RS wy b (.slice (some ⟨g,0,none⟩) ts.length cap) ts (ak s6 (af s6 8))->ai b wz wy->∃(aR:Option Addr) (MI:Nat) (rl:List Tk) (s7:St),RS wy b (.slice (some ⟨g,0,none⟩) ts.length cap) ts s7/\wy.heap[w.heap.size+1]?=some (.cells #[.int .i64 0,.string (nm s),.slice none 0 0,.slice aA abv.length MO,.bool (af s2 11),.slice aR rl.length MI] 96 (0,0))/\wy.heap[w.heap.size]?=some (.cells #[.int .i64 0,.string ⟨#[]⟩,.slice none 0 0,.slice none 0 0,.bool false,.slice none 0 0] 96)/\wy.ownsRow (w.heap.size+2) 9 1 (.slice aA abv.length MO) abv.length (bt abv)/\ff wy (.slice aR rl.length MI) rl/\ai b w wy/\jo s2=(rl,s7):=by
       intro aR MI wz z1 z2 z3 z4 z5 z6 wy y1 y2;exact⟨aR,MI,rl,_,y1,y2.at z2 (by omega),y2.at z3 (by omega),z1.keepOwn y2 z4 (by decide),z1.keepTok y2 z5,z6.trans y2,by rw[HX.o,HEAT.o]⟩
      have FIN:=aa fin;clear fin HX HEAT HS6;go_upto_region 16 with fail;go_region;all_goals(try go_wp2_with fail)
      ·have Oh:cap=a5:=by assumption
       have hz:a6-a5=0:=by omega
       have hw2:=HW.o;obtain⟨z1,z2,z3,z4,z5,z6⟩:=hw2;have Z1:=z1 (.slice (some ⟨g,0,none⟩) (a6-a5) 0);have Z2:=z2 (.slice (some ⟨g,0,none⟩) (a6-a5) 0);have Z3:=z3 (.slice (some ⟨g,0,none⟩) (a6-a5) 0);have Z4:=z4 (.slice (some ⟨g,0,none⟩) (a6-a5) 0);have Z5:=z5 (.slice (some ⟨g,0,none⟩) (a6-a5) 0);have Z6:=z6 (.slice (some ⟨g,0,none⟩) (a6-a5) 0);clear z1 z2 z3 z4 z5 z6 HW;generalize (x3.setCell ⟨w.heap.size+1,5,none⟩ (.slice (some ⟨g,0,none⟩) (a6-a5) 0)).drew=x4 at*;refine(gQ x4 b _ ts s6 8 ⟨#[41]⟩ rfl (by decide) (by decide) Z1).mono ?_;rintro e x5 ⟨rfl,hr6,hk6⟩;have HM:=aa (FIN.o (some ⟨g,0,none⟩) 0 x4 Z1 (by rw[hrl];exact Z2) Z3 Z5 (Or.inr ⟨g,0,0,cur,rfl,Z6,by rw[hrl,hz];have:rl=[]:=KZ (by omega);rw[this];simp[eF]⟩) Z4 x5 hr6 hk6);clear FIN Z1 Z2 Z3 Z4 Z5 Z6;go_wp2_with fail;go_meet;exact HM.o
      ·have hw2:=HW.o
       obtain⟨z1,z2,z3,z4,z5,z6⟩:=hw2;have Z1:=z1 (.slice (some ⟨g,a5*3,none⟩) (a6-a5) (cap-a5));have Z2:=z2 (.slice (some ⟨g,a5*3,none⟩) (a6-a5) (cap-a5));have Z3:=z3 (.slice (some ⟨g,a5*3,none⟩) (a6-a5) (cap-a5));have Z4:=z4 (.slice (some ⟨g,a5*3,none⟩) (a6-a5) (cap-a5));have Z5:=z5 (.slice (some ⟨g,a5*3,none⟩) (a6-a5) (cap-a5));have Z6:=z6 (.slice (some ⟨g,a5*3,none⟩) (a6-a5) (cap-a5));clear z1 z2 z3 z4 z5 z6 HW;generalize (x3.setCell ⟨w.heap.size+1,5,none⟩ (.slice (some ⟨g,a5*3,none⟩) (a6-a5) (cap-a5))).drew=x4 at*;refine(gQ x4 b _ ts s6 8 ⟨#[41]⟩ rfl (by decide) (by decide) Z1).mono ?_;rintro e x5 ⟨rfl,hr6,hk6⟩;have HM:=aa (FIN.o (some ⟨g,a5*3,none⟩) (cap-a5) x4 Z1 (by rw[hrl];exact Z2) Z3 Z5 (Or.inr ⟨g,a5*3,cap-a5,cur,rfl,Z6,by rw[hrl];exact HTC.o⟩) Z4 x5 hr6 hk6);clear FIN Z1 Z2 Z3 Z4 Z5 Z6;go_wp2_with fail;go_meet;exact HM.o
    ·rw[hnn]at c2
     have HEAT:=aa (show iy s5 s6=[]from by match s5,s6,hnn with|none,none,_=>rfl|some l,none,_=>rfl);clear hnn HLE Q3 hF5;go_wp2_with fail;refine(gQ x3 b L ts s6 8 ⟨#[41]⟩ rfl (by decide) (by decide) hr5).mono ?_;rintro e x4 ⟨rfl,hr6,hk6⟩;have HF6:=aa (hk6.at HF5.o (by omega));have HR6:=aa (hk6.at HR5.o (by omega));have hK6:=hK5.trans hk6;have Mt:=hr5.keepOwn hk6 LV (by decide);go_wp2_with fail;go_meet;exact⟨none,0,[],_,hr6,HF6.o,HR6.o,Mt,Or.inl ⟨rfl,rfl⟩,hK6,by rw[HX.o,HEAT.o]⟩
  case rest=>
   clear HF2 HR2 hK2 hr2 LL;obtain⟨wd,hwd⟩:∃wd,wd=wc:=⟨_,rfl⟩;subst hwd;obtain⟨aR,MI,rl,s7,hr,hF,hR,LJ,htk,hK,hrows⟩:=hcut;have HRWS:=aa hrows;have HF:=aa hF;have HR:=aa hR;clear hrows hF hR;go_wp2_with fail;refine(BI wd b L ts s7 hr).mono ?_;rintro e w5 ⟨vF,rfl,hfown,hfl,hr5,hk5⟩;have hF5:=hk5.at HF.o (by omega);have HR5:=aa (hk5.at HR.o (by omega));have hK5:=hK.trans hk5;have LV:=hr.keepOwn hk5 LJ (by decide);have htk5:=hr.keepTok hk5 htk;have Ny:=iJ hfown (show w.heap.size<=wd.heap.size from hK.size);have Mf:=aa (show fY s=(⟨0,nm s,(gy s7).1,abv,af s2 11,rl⟩,(gy s7).2)from by unfold fY;simp only[HIMP.o,HRWS.o]);clear HF HR hK LJ htk hk5 hr hfown HIMP HRWS;generalize (gy s7).1=fl at*;generalize (gy s7).2=s8 at*;generalize af s2 11=ru at*;obtain⟨aF,MW,hvF⟩:=bc Ny;subst hvF;have g2:w5.cell? ⟨w.heap.size+1,2,none⟩=some (.slice none 0 0):=ae hF5 2;have gf:=ar hF5 2;have hF6:=(show(w5.setCell ⟨w.heap.size+1,2,none⟩ (.slice aF fl.length MW)).heap[w.heap.size+1]?=some (.cells #[.int .i64 0,.string (nm s),.slice aF fl.length MW,.slice aA abv.length MO,.bool ru,.slice aR rl.length MI] 96 (0,0))from aJ hF5 2 _);have hR6:=dG HR5.o (show w.heap.size≠w.heap.size+1 by omega) 2 (.slice aF fl.length MW);have hr6:=hr5.set hF5 (by decide) (by decide) 2 (.slice aF fl.length MW);have hK6:=hK5.setNew ⟨w.heap.size+1,2,none⟩ (by simp) (.slice aF fl.length MW);have Mt:=gW LV ((ai.refl (w.heap.size+1) w5).setCell 2 (.slice aF fl.length MW)) hF5 (by decide);have hfown6:=gW Ny ((ai.refl (w.heap.size+1) w5).setCell 2 (.slice aF fl.length MW)) hF5 (by decide);have htk6:=htk5.keep ((ai.refl (w.heap.size+1) w5).setCell 2 (.slice aF fl.length MW)) hF5 (by decide);go_upto_region 19 with fail;clear g2 gf hF5 HR5 hr5 hK5 LV Ny htk5;generalize w5.setCell ⟨w.heap.size+1,2,none⟩ (.slice aF fl.length MW)=w6 at*;have p0:w6.cell? ⟨w.heap.size+1,0,none⟩=some (.int .i64 0):=ae hF6 0;have r0:w6.cell? ⟨w.heap.size,0,none⟩=some (.int .i64 0):=ae hR6 0;have p1:w6.cell? ⟨w.heap.size+1,1,none⟩=some (.string (nm s)):=ae hF6 1;have r1:w6.cell? ⟨w.heap.size,1,none⟩=some (.string ⟨#[]⟩):=ae hR6 1;have p2:w6.cell? ⟨w.heap.size+1,2,none⟩=some (.slice aF fl.length MW):=ae hF6 2;have r2:w6.cell? ⟨w.heap.size,2,none⟩=some (.slice none 0 0):=ae hR6 2;have p3:w6.cell? ⟨w.heap.size+1,3,none⟩=some (.slice aA abv.length MO):=ae hF6 3;have r3:w6.cell? ⟨w.heap.size,3,none⟩=some (.slice none 0 0):=ae hR6 3;have p4:w6.cell? ⟨w.heap.size+1,4,none⟩=some (.bool ru):=ae hF6 4;have r4:w6.cell? ⟨w.heap.size,4,none⟩=some (.bool false):=ae hR6 4;have p5:w6.cell? ⟨w.heap.size+1,5,none⟩=some (.slice aR rl.length MI):=ae hF6 5;have r5:w6.cell? ⟨w.heap.size,5,none⟩=some (.slice none 0 0):=ae hR6 5;have rf:∀j,w6.frozen? ⟨w.heap.size,j,none⟩=false:=fun j=>ar hR6 j;have HZ1:=aa (hr6.set6 hR6 (by decide) (by decide) (.int .i64 0) (.string (nm s)) (.slice aF fl.length MW) (.slice aA abv.length MO) (.bool ru) (.slice aR rl.length MI));have HZ2:=aa (vG hK6 (KK _) (.int .i64 0) (.string (nm s)) (.slice aF fl.length MW) (.slice aA abv.length MO) (.bool ru) (.slice aR rl.length MI));have HZ3:=aa (uB Mt hR6 (by decide) (.int .i64 0) (.string (nm s)) (.slice aF fl.length MW) (.slice aA abv.length MO) (.bool ru) (.slice aR rl.length MI));have HZ4:=aa (uB hfown6 hR6 (by decide) (.int .i64 0) (.string (nm s)) (.slice aF fl.length MW) (.slice aA abv.length MO) (.bool ru) (.slice aR rl.length MI));have HZ5:=aa (htk6.keep (Hg w6 w.heap.size (.int .i64 0) (.string (nm s)) (.slice aF fl.length MW) (.slice aA abv.length MO) (.bool ru) (.slice aR rl.length MI)) hR6 (by decide));clear hF6 hR6;go_wp2_with fail;refine bodyPost_ret (v:=.agg #[.int .i64 0,.string (nm s),.slice aF fl.length MW,.slice aA abv.length MO,.bool ru,.slice aR rl.length MI]) (by simp[results,results36,go_sem,r0,r1,r2,r3,r4,r5]) rfl ⟨_,_,_,by rw[Mf.o],?_,?_,?_,?_,HZ2.o⟩
   ·rw[Mf.o];exact HZ4.o
   ·rw[Mf.o];exact iJ HZ3.o (by omega)
   ·rw[Mf.o];exact HZ5.o
   ·rw[Mf.o];exact HZ1.o
end Go.Proofs.YtgbloieahmkcjaaGreat
