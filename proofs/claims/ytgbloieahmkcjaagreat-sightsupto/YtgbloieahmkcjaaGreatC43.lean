/- The law Sights. For every schema, rows and two viewers that together hold at most 1048576 values and letters: the law Sights returns true (the program's Sees and the document's answer agree, of two viewers in turns; what was handed in is as it was, and nobody's), and the arguments read as they did. Condition: that bulk. -/
import Derived.Test.YtgbloieahmkcjaaGreatC42
import Derived.Test.YtgbloieahmkcjaaGreatC27
namespace Go.Proofs.YtgbloieahmkcjaaGreat
set_option maxHeartbeats 20000000
set_option maxRecDepth 100000
open Go.ChangeShapes Go.WideShapes Go.ChangeAt Go.RowKit Go.Deep Go.Proofs.Tryz
open Go.ChangeMaps (open_string shut_string)
theorem EP:ownKnob prog.godebug=none:=by kernel_rfl
theorem xH:laidOutB prog=true:=by kernel_rfl
theorem Ag{H:Type}{enc:TypeId×Value->H}{W:World}{r:Go.Reach}{b0 base:Nat}{spare:Nat->Bool}{held:Bool}{v:Value}{d:DataW H}{p:List MemPlace}(hv:Value.okWide prog W r b0 25 v)(h:DataW.Trod enc prog W base spare held 25 v d p):∃s t:Ls,v=.agg #[.string s,.string t]/\s.size<=Rows.uptoBulk d:=by
 obtain⟨f0,f1,e,hu,t0,t1,o0,o1⟩:=fl2 (t:=25) (by kernel_rfl) (by kernel_rfl);have h1:oneCellFields prog (prog.fieldsOf 25)=true:=by kernel_rfl
 rw[e]at h1;obtain⟨v0,v1,y0,y1,n,rfl,rfl,_,g0,g1⟩:=Joins.open_agg2 hu h1 cells25 hv h;obtain⟨s,rfl,d0,_⟩:=qF t0 g0;obtain⟨t,rfl,_⟩:=qF t1 g1;exact⟨s,t,rfl,by simp only[Rows.uptoBulk,Rows.uptoBulkAll];omega⟩
theorem Ks(H:Type)(enc:TypeId×Value->H)(W:World)(base:Nat)(args:Array Value)(ds gs:List (DataW H))(before:List MemPlace)
 (Ob:∀(j:Nat) t v,f4.params[j]?=some t->args[j]?=some v->Value.okWide prog W .any base t v)
 (hW:DataW.Whole enc prog f4.params.toList Rows.sightsSpec.vars false W args.toList ds gs before) (hk:Rows.uptoSmall H (ds++gs)=true):
 Calls prog 4 args W fun e W'=>∃v,e=.returned v/\Rows.sightsSpec.post enc prog f4 false true false false W args v W':=by
 have hW':=hW;have hlt:=hW.lt;obtain⟨p,q,hA0,hV,rfl,hfz,hnd⟩:=hW;have hA:DataW.TrodAll enc prog W 0 (fun _=>true) true f4.params.toList args.toList ds p:=hA0;rw[params4]at hA Ob;obtain⟨v0,vs0,d0,ds0,p0,q0,hargs,rfl,rfl,h0,r0⟩:=trodAll_cons hA;obtain⟨v1,vs1,d1,ds1,p1,q1,rfl,rfl,rfl,h1,r1⟩:=trodAll_cons r0;obtain⟨v2,vs2,d2,ds2,p2,q2,rfl,rfl,rfl,h2,r2⟩:=trodAll_cons r1;obtain⟨v3,vs3,d3,ds3,p3,q3,rfl,rfl,rfl,h3,r3⟩:=trodAll_cons r2;obtain⟨rfl,rfl,rfl⟩:=trodAll_nil r3;obtain rfl:args=#[v0,v1,v2,v3]:=by cases args;simp_all
 obtain⟨rfl,rfl⟩:=trodVars_none hV;obtain⟨x,rfl,rfl,rfl,hx⟩:=open_string underlying9 (Ob 0 9 v0 rfl rfl) h0;obtain⟨s1,t1,rfl,b1⟩:=Ag (Ob 2 25 v2 rfl rfl) h2;obtain⟨s2,t2,rfl,b2⟩:=Ag (Ob 3 25 v3 rfl rfl) h3;obtain⟨aS,lS,cS,rfl⟩:=okWide_slice underlying23 (Ob 1 23 v1 rfl rfl);obtain⟨fuel,hf⟩:=id h1;obtain⟨aY,cY,ys,e,hY,hn,hc⟩:=Ds (x:=(d1,p1)) (by simpa [Value.cells]using hf);cases e;have hb:Rows.uptoBulkAll ([DataW.lit (.string x.data.toList),d1,d2,d3]:List (DataW H))<=1048576:=by
  have:=of_decide_eq_true hk;simpa using this
 simp only[Rows.uptoBulkAll]at hb;simp only at hn hc;have hb1:=tR d1;clear hA0 hA hf hk;refine(EV W x s1 t1 s2 t2 hx (by omega) (by omega) aS cS ys hY (by omega) (fun y hy=>?_)).mono fun e W' ⟨he,bel⟩=>?_
 ·obtain⟨c1,c2,c3⟩:=hc y hy
  exact⟨by omega,by omega,fun c hc=>by have:=c3 c hc;omega⟩
 ·subst he
  simp only[List.append_nil]at hW' hlt;exact⟨_,rfl,_,_,_,[],_,[],hW',trodAll_mk1 (shut_bool underlying4 _),(trodAll_cons_mk (shut_string underlying9 hx) (trodAll_cons_mk (Below.trod xH (by kernel_rfl) (of_decide_eq_true (by kernel_rfl)) h1 bel (fun z hz=>hlt z (by simp[hz]))) (trodAll_cons_mk (Below.trod xH (by kernel_rfl) (of_decide_eq_true (by kernel_rfl)) h2 bel (fun z hz=>hlt z (by simp[hz]))) (trodAll_cons_mk (Below.trod xH (by kernel_rfl) (of_decide_eq_true (by kernel_rfl)) h3 bel (fun z hz=>hlt z (by simp[hz]))) trodAll_mk0)))),rfl,bel.frame _,fun h=>by cases h⟩
theorem EC(os:Os)(started:os.Started)(H:Type)(enc:TypeId×Value->H)(F:Stop.Interp):
 ReturnsInHanded {} checked os 4 .any ((Rows.OpenSpec.upto Rows.sightsSpec).pre6 enc prog f4 Rows.sightsUptoRow.domain false) (((Rows.OpenSpec.upto Rows.sightsSpec).at F).post enc prog f4 false true false false):=by
 refine returnsInHanded_of_cond (C:=checked) (s:=Rows.OpenSpec.upto Rows.sightsSpec) (k:=Rows.uptoSmall) rfl EP started (by kernel_rfl) func4
  (OpenSpec.witness (enc:=enc) (C:=checked) (s:=Rows.OpenSpec.upto Rows.sightsSpec) (k:=Rows.uptoSmall) rfl false ⟨#[],#[.string .empty,.slice none 0 0,.agg #[.string .empty,.string .empty],.agg #[.string .empty,.string .empty]],[]⟩ 8 (by kernel_rfl) (by kernel_rfl) (by kernel_rfl)
   (x:=([.lit (.string []),.nil,.agg [.lit (.string []),.lit (.string [])],.agg [.lit (.string []),.lit (.string [])]],[],[])) (by kernel_rfl) rfl (by kernel_rfl)) ?_
 intro W base args ds gs before Ob hW _ hk _;exact Ks H enc W base args ds gs before Ob hW hk
theorem sights_holds:Rows.SightsUptoSaid:=
 OpenClaim.holds_of_cond 4 f4 rfl rfl rfl rfl rfl rfl rfl ⟨rfl,rfl,rfl,rfl,rfl⟩ rfl rfl rfl rfl rfl (by kernel_rfl) func4 (by kernel_rfl)
  (of_decide_eq_true (by kernel_rfl)) (by unfold Func.isWrapper;first|(rw[K9 (by decide+kernel)];kernel_rfl)|(rw[K8 (by decide+kernel)];exact⟨rfl,rfl⟩))
  (fun os started H enc _ F=>EC os started H enc F)
#print axioms sights_holds
end Go.Proofs.YtgbloieahmkcjaaGreat
