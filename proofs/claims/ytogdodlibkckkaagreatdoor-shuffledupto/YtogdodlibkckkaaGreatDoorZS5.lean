/- The law Shuffled returns true for every schema, rows, ask and order of at most 1048576 values and letters together, and the arguments read as they did. Conditions: that bulk; what three tables of the library hold (tied to the text by the card). -/
import Derived.Test.YtogdodlibkckkaaGreatDoorZS4
import Derived.Test.YtogdodlibkckkaaGreatDoorZS3
import Derived.Test.YtogdodlibkckkaaGreatDoorCards
import Derived.Test.YtogdodlibkckkaaGreatDoorTie
namespace Go.Proofs.YtogdodlibkckkaaGreatDoor
set_option maxHeartbeats 20000000
set_option maxRecDepth 100000
open Go.ChangeShapes Go.WideShapes Go.ChangeAt Go.RowKit Go.Deep
open Go.ChangeMaps (open_string shut_string)
theorem wf_i64{n:Int}(h:(Lit.int .i64 n).wf=true): -9223372036854775808<=n/\n<=9223372036854775807:=by
 have e1:IntKind.i64.min= -9223372036854775808:=by decide
 have e2:IntKind.i64.max=9223372036854775807:=by decide
 simp[Lit.wf,e1,e2]at h;omega
theorem AFv{H:Type}{enc:TypeId×Value->H}{w:World}{base:Nat}{spare:Nat->Bool}{held:Bool}{fuel:Nat}{v:Value}{x:DataW H×List MemPlace}(h:DataW.trod enc Tryz.prog w base spare held fuel 53 [v]=some x):
 ∃(a:Option Addr) (cap:Nat) (os:List Int),v=.slice a os.length cap/\AFB w v os/\os.length<=Rows.uptoBulk x.1/\∀n∈os, -9223372036854775808<=n/\n<=9223372036854775807:=by
 rcases open_slice Tryz.underlying53 h with⟨e,_⟩|⟨a,len,cap,m,n,D,Pl,e,_,hl,_,hm,rfl,hx⟩
 ·cases e;exact⟨none,0,[],rfl,⟨none,0,rfl,.inl rfl⟩,by simp,fun c hc=>by simp at hc⟩
 ·cases e
  have hlm:len<=m:=by rw[hm];split<;>omega
  obtain⟨os,rfl,hp⟩:=Wb (α:=Int) (n:=len) (p:=fun i n=>w.cell? (a.add i)=some (.int .i64 n)/\(Lit.int .i64 n).wf=true) (fun i hi=>by
   obtain⟨cs',h1,h2⟩:=hx i (by omega);rw[Tryz.cells3,Nat.mul_one]at h1;obtain⟨_,hlen,hcell⟩:=World.cells?_some h1;obtain⟨b,e,_,hwf⟩:=DataW.trod_int Tryz.underlying3 h2;subst e;have e0:=hcell 0 (by omega);exact⟨b,by simpa [Addr.add]using e0,hwf⟩)
  refine⟨some a,cap,os,rfl,⟨some a,cap,rfl,?_⟩,?_,fun n hn=>?_⟩
  ·by_cases h0:os=[]
   ·exact .inl h0
   ·have hlp:0<os.length:=List.length_pos_iff.2 h0
    obtain⟨y,hy⟩:∃y,os[0]?=some y:=⟨_,wS hlp⟩;obtain⟨g,off,rfl⟩:=YT (by simpa [Addr.add]using(hp 0 y hy).1);refine .inr ⟨g,off,rfl,fun j r hj=>?_⟩;have q:=(hp j r hj).1;rw[add_plain]at q;exact q
  ·have:=Uo 1 ((List.range os.length).map D) (fun d _=>OG d)
   simp only[xT,List.length_range]at this;simp only[Rows.uptoBulk];omega
  ·obtain⟨j,hj⟩:=List.mem_iff_getElem?.1 hn
   exact wf_i64 (hp j n hj).2
theorem AGT{W:World}(h:laidMetH Tryz.prog Rows.shuffledUptoRow.laid W):Lib.TabIs Tryz.prog W "internal/strconv.uint64pow10" .u64 Lib.pow10Tab:=by
 have h':laidMet Tryz.prog Rows.shuffledUptoRow.laid W:=h;obtain⟨ps,hv,_⟩:=h';obtain⟨_,_,_,_,_,_,_,_,_,_,hv,_⟩:=hv;obtain⟨_,_,_,_,_,_,_,_,_,_,hv,_⟩:=hv;obtain⟨g,t,cs,fuel,p,q,hg,ht,hvar,hd,_,_⟩:=hv;have e1:Tryz.prog.globalNamed "internal/strconv.uint64pow10" =some 1:=by kernel_rfl
 have e2:(Tryz.prog.globals[1]?).map (·.type)=some 392:=by kernel_rfl
 obtain rfl:=xD (e1.symm.trans hg);obtain rfl:=xD (e2.symm.trans ht);have e3:(Rows.laid_internal_strconv_uint64pow10:DataW Unit)=Lib.tabData .u64 Lib.pow10Tab:=by rfl
 rw[e3]at hd;unfold Lib.TabIs;rw[hvar,<-Lib.cells_of_tab Tryz.underlying392 Tryz.underlying386 (by kernel_rfl) (by kernel_rfl) hd]
theorem AGP(H:Type)(enc:TypeId×Value->H)(W:World)(base:Nat)(args:Array Value)(ds gs:List (DataW H))(before:List MemPlace)
 (hval:∀(j:Nat) t v,Tryz.f6.params[j]?=some t->args[j]?=some v->Value.okWide Tryz.prog W .any base t v)
 (hW:DataW.Whole enc Tryz.prog Tryz.f6.params.toList Rows.shuffledSpec.vars false W args.toList ds gs before) (hk:Rows.uptoSmall H (ds++gs)=true) (hL:laidMetH Tryz.prog Rows.shuffledUptoRow.laid W):
 Calls Tryz.prog 6 args W fun e W'=>∃v,e=.returned v/\Rows.shuffledSpec.post enc Tryz.prog Tryz.f6 false true false false W args v W':=by
 have hW':=hW;have hlt:=hW.lt;obtain⟨p,q,hA0,hV,rfl,hfz,hnd⟩:=hW;have hA:DataW.TrodAll enc Tryz.prog W 0 (fun _=>true) true Tryz.f6.params.toList args.toList ds p:=hA0;rw[Tryz.params6]at hA hval;obtain⟨v0,vs0,d0,ds0,p0,q0,hargs,rfl,rfl,h0,r0⟩:=trodAll_cons hA;obtain⟨v1,vs1,d1,ds1,p1,q1,rfl,rfl,rfl,h1,r1⟩:=trodAll_cons r0;obtain⟨v2,vs2,d2,ds2,p2,q2,rfl,rfl,rfl,h2,r2⟩:=trodAll_cons r1;obtain⟨v3,vs3,d3,ds3,p3,q3,rfl,rfl,rfl,h3,r3⟩:=trodAll_cons r2;obtain⟨rfl,rfl,rfl⟩:=trodAll_nil r3;obtain rfl:args=#[v0,v1,v2,v3]:=by cases args;simp_all
 obtain⟨rfl,rfl⟩:=trodVars_none hV;obtain⟨x,rfl,rfl,rfl,hx⟩:=open_string Tryz.underlying9 (hval 0 9 v0 rfl rfl) h0;obtain⟨role,vid,qt,vt,b,rfl,b1,b2,b3⟩:=bB (hval 2 26 v2 rfl rfl) h2;obtain⟨aS,lS,cS,rfl⟩:=okWide_slice Tryz.underlying22 (hval 1 22 v1 rfl rfl);obtain⟨fuel,hf⟩:=id h1;obtain⟨aY,cY,ys,e,hY,hn,hc⟩:=tE (x:=(d1,p1)) (by simpa [Value.cells]using hf);cases e;obtain⟨aZ,lZ,cZ,rfl⟩:=okWide_slice Tryz.underlying53 (hval 3 53 v3 rfl rfl);obtain⟨fuel2,hf2⟩:=id h3;obtain⟨aX,cX,os,e,hO,hn2,hc2⟩:=AFv (x:=(d3,p3)) (by simpa [Value.cells]using hf2);cases e;have hb:Rows.uptoBulkAll ([DataW.lit (.string x.data.toList),d1,d2,d3]:List (DataW H))<=1048576:=by
  have:=of_decide_eq_true hk;simpa using this
 have hxs:x.data.toList.length=x.size:=by rw[Array.length_toList];rfl
 simp only[Rows.uptoBulkAll,Rows.uptoBulk,hxs]at hb;simp only at hn hc hn2 hc2;have hb1:=OG d1;clear hA0 hA hf hf2 hk;refine(AGO x W (by omega) aS cS ys hY ⟨by omega,fun y hy=>?_⟩ (jX (AGT hL)) role vid qt vt b (by omega) (by omega) (by omega) aZ cZ os hO (by omega) hc2).mono fun e W' ⟨he,bel⟩=>?_
 ·obtain⟨c1,c2,c3⟩:=hc y hy
  exact⟨by omega,by omega,fun c hc=>by have:=c3 c hc;omega⟩
 ·subst he
  simp only[List.append_nil]at hW' hlt;exact⟨_,rfl,_,_,_,[],_,[],hW',trodAll_mk1 (shut_bool Tryz.underlying4 _),(trodAll_cons_mk (shut_string Tryz.underlying9 hx) (trodAll_cons_mk (Below.trod VQ (by kernel_rfl) (of_decide_eq_true (by kernel_rfl)) h1 bel (fun z hz=>hlt z (by simp[hz]))) (trodAll_cons_mk (Below.trod VQ (by kernel_rfl) (of_decide_eq_true (by kernel_rfl)) h2 bel (fun z hz=>hlt z (by simp[hz]))) (trodAll_cons_mk (Below.trod VQ (by kernel_rfl) (of_decide_eq_true (by kernel_rfl)) h3 bel (fun z hz=>hlt z (by simp[hz]))) trodAll_mk0)))),rfl,bel.frame _,fun h=>by cases h⟩
def Qp:Array Value:=#[.string .empty,.slice none 0 0,.agg #[.string .empty,.string .empty,.string .empty,.string .empty,.int .i64 0],.slice none 0 0]
noncomputable def laidWorld (os:Os):World:=
 {World.holding Tryz.prog os ⟨#[],#[],[]⟩with heap:=((((World.holding Tryz.prog os ⟨#[],#[],[]⟩).heap.modify 1 fun
  | .cells _ t frozen=>.cells ⟨[1,10,100,1000,10000,100000,1000000,10000000,100000000,1000000000,10000000000,100000000000,1000000000000,10000000000000,100000000000000,1000000000000000,10000000000000000,100000000000000000,1000000000000000000,10000000000000000000].map (.int .u64)⟩ t frozen
  |o=>o).modify 2 fun
  | .cells _ t frozen=>.cells ⟨[0,1,28,2,29,14,24,3,30,22,20,15,25,17,4,8,31,27,13,23,21,19,16,7,26,12,18,6,11,5,10,9].map (.int .u8)⟩ t frozen
  |o=>o).modify 3 fun
  | .cells _ t frozen=>.cells ⟨[0,1,56,2,57,49,28,3,61,58,42,50,38,29,17,4,62,47,59,36,45,43,51,22,53,39,33,30,24,18,12,5,63,55,48,27,60,41,37,16,46,35,44,21,52,32,23,11,54,26,40,15,34,20,31,10,25,14,19,9,13,8,7,6].map (.int .u8)⟩ t frozen
  |o=>o)}
theorem kS(os:Os):laidMet Tryz.prog Rows.shuffledUptoRow.laid ((laidWorld os).forCall (fun _ _=>0) ⟨#[],Qp,[]⟩).memory:=
 laidMet_of_run' 8 (by kernel_rfl) (by kernel_rfl)
theorem wE(os:Os){H:Type}(enc:TypeId×Value->H):∃places,DataW.whole enc Tryz.prog ((laidWorld os).forCall (fun _ _=>0) ⟨#[],Qp,[]⟩).memory Tryz.f6.params.toList Rows.shuffledSpec.vars false Qp.toList 8=some ([.lit (.string []),.nil,.agg [.agg [.lit (.string []),.lit (.string [])],.lit (.string []),.lit (.string []),.lit (.int .i64 0)],.nil],[],places):=
 ⟨[],by kernel_rfl⟩
theorem AGQ(os:Os)(started:os.Started)(H:Type)(enc:TypeId×Value->H)(F:Go.Stop.Interp):
 ReturnsInHanded {} Tryz.checked os 6 .any ((Rows.OpenSpec.upto Rows.shuffledSpec).preRow enc Tryz.prog Tryz.f6 Rows.shuffledUptoRow.domain false Rows.shuffledUptoRow.laid) (((Rows.OpenSpec.upto Rows.shuffledSpec).at F).post enc Tryz.prog Tryz.f6 false true false false):=by
 obtain⟨places,hx⟩:=wE os enc;refine returnsInHanded_of_row (C:=Tryz.checked) (s:=Rows.OpenSpec.upto Rows.shuffledSpec) kT started (by kernel_rfl) Tryz.func6
  (witness_row_at (enc:=enc) (C:=Tryz.checked) false (laidWorld os) Qp rfl (by kernel_rfl) (by kernel_rfl) (by kernel_rfl)
   (OpenSpec.preRow_of_cond 8 hx (by kernel_rfl) (fun k hk=>by cases hk;kernel_rfl) (by kernel_rfl) (kS os))) ?_
 intro W base args ds gs before hval hW _ hc _ hL _ _;exact AGP H enc W base args ds gs before hval hW (hc _ rfl) hL
theorem AGS:Rows.ShuffledUptoSaid:=
 OpenClaim.holds_of_cond 6 Tryz.f6 rfl rfl rfl rfl rfl rfl rfl ⟨rfl,rfl,rfl,rfl,rfl⟩ rfl rfl rfl rfl rfl (by kernel_rfl) Tryz.func6 (by kernel_rfl)
  (of_decide_eq_true (by kernel_rfl)) (by unfold Func.isWrapper;first|(rw[xH (by decide+kernel)];kernel_rfl)|(rw[xG (by decide+kernel)];exact⟨rfl,rfl⟩))
  (fun os started H enc _ F=>by rw[OpenClaim.pre_eq_preRow];exact AGQ os started H enc F)
theorem AGR(f:FuncId)(fn:Func)(hf:Tryz.pinned.checked.prog.funcNamed "veil/veilkeep.Shuffled" =some f)(hfn:Tryz.pinned.checked.prog.funcs[f]?=some fn):
 false=Tryz.pinned.checked.prog.looks []/\∀(j:Nat) t,fn.params[j]?=some t->Tryz.pinned.checked.prog.wantsStandIn t=false:=by
 obtain rfl:f=6:=xD ((show Tryz.prog.funcNamed "veil/veilkeep.Shuffled" =some 6 by kernel_rfl).symm.trans hf)|>.symm;obtain rfl:fn=Tryz.f6:=(xD (Tryz.func6.symm.trans hfn)).symm;refine⟨by kernel_rfl,fun j t ht=>?_⟩;rw[Tryz.params6]at ht;have hm:=Array.mem_of_getElem? ht;simp at hm;rcases hm with rfl|rfl|rfl|rfl
 ·exact(show Tryz.prog.wantsStandIn 9=false by kernel_rfl)
 ·exact(show Tryz.prog.wantsStandIn 22=false by kernel_rfl)
 ·exact(show Tryz.prog.wantsStandIn 26=false by kernel_rfl)
 ·exact(show Tryz.prog.wantsStandIn 53=false by kernel_rfl)
theorem shuffled_card:Rows.ShuffledUptoCardSaid:=
 Claim7.holds_tied_plain_at .later [] _ _ _ _ AGS (fun _ h=>by cases h) (by kernel_rfl) (fun _ h=>by cases h) shuffledUpto_row_tie rfl ⟨rfl,rfl⟩ (by kernel_rfl) rfl AGR (by kernel_rfl)
#print axioms shuffled_card
end Go.Proofs.YtogdodlibkckkaaGreatDoor
