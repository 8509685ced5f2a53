import Derived.Test.YtadneapobijejaaGreatDoorC50
import Derived.Deep.DeepHandedRow
import Derived.Lib.LaidTab
namespace Go.Proofs.YtadneapobijejaaGreatDoor
set_option maxHeartbeats 20000000
set_option maxRecDepth 100000
open Go.ChangeShapes Go.WideShapes Go.ChangeAt Go.RowKit Go.Deep
open Go.ChangeMaps (open_string shut_string)
theorem ZD:ownKnob Tryz.prog.godebug=none:=by kernel_rfl
theorem Tr:laidOutB Tryz.prog=true:=by kernel_rfl
theorem Tryz.cellsAsk:Tryz.prog.cellsOf 26=5:=by kernel_rfl
theorem Tryz.cells3:Tryz.prog.cellsOf 3=1:=by kernel_rfl
theorem Tryz.flAsk:∃f0 f1 f2 f3,Tryz.prog.underlying 26=some (.struct #[f0,f1,f2,f3])/\f0.type=24/\f1.type=9/\f2.type=9/\f3.type=3/\f0.offset=0/\f1.offset=2/\f2.offset=3/\f3.offset=4:=by
 have h1:Tryz.prog.underlying 26=some (.struct (Tryz.prog.fieldsOf 26)):=by kernel_rfl
 have h2:(Tryz.prog.fieldsOf 26).toList.map (fun f=>(f.type,f.offset))=[(24,0),(9,2),(9,3),(3,4)]:=by kernel_rfl
 have h3:(Tryz.prog.fieldsOf 26).size=4:=by have:=congrArg List.length h2;simpa using this
 obtain⟨f0,f1,f2,f3,e⟩:=Joins.array4 h3;rw[e]at h1 h2;simp at h2;exact⟨f0,f1,f2,f3,h1,h2.1.1,h2.2.1.1,h2.2.2.1.1,h2.2.2.2.1,h2.1.2,h2.2.1.2,h2.2.2.1.2,h2.2.2.2.2⟩
theorem Zj{α:Type}{cs:Array α}(h:cs.size=5):∃c0 c1 c2 c3 c4,cs=#[c0,c1,c2,c3,c4]:=by
 obtain⟨l⟩:=cs
 match l,h with
 |[c0,c1,c2,c3,c4],_=>exact⟨c0,c1,c2,c3,c4,rfl⟩
theorem Zk{H:Type}{enc:TypeId×Value->H}{W:World}{r:Go.Reach}{b0 base:Nat}{spare:Nat->Bool}{held:Bool}{v:Value}{d:DataW H}{p:List MemPlace}(hv:Value.okWide Tryz.prog W r b0 26 v)(h:DataW.Trod enc Tryz.prog W base spare held 26 v d p):∃(vG vid qt vt:vD) (b:Int),v=.agg #[.string vG,.string vid,.string qt,.string vt,.int .i64 b]/\vG.size<=Rows.uptoBulk d/\qt.size<=Rows.uptoBulk d/\vt.size<=Rows.uptoBulk d:=by
 obtain⟨f0,f1,f2,f3,hu,t0,t1,t2,t3,o0,o1,o2,o3⟩:=Tryz.flAsk;obtain⟨g0,g1,_,hw,s0,s1,q0,q1⟩:=Tryz.fl2 (t:=24) (by kernel_rfl) (by kernel_rfl);obtain⟨cs,rfl,hsz⟩:=okWide_struct hu hv;obtain⟨c0,c1,c2,c3,c4,rfl⟩:=Zj (hsz.trans Tryz.cellsAsk);obtain⟨fuel,hf⟩:=h;obtain⟨y0,y1,y2,y3,n,hx,_,h0,h1,h2,h3⟩:=Joins.trod_struct4 hu hf;simp only[Value.cells,t0,t1,t2,t3,o0,o1,o2,o3,Tryz.cellsViewer,Tryz.cells9,Tryz.cells3]at h0 h1 h2 h3;simp at h0 h1 h2 h3;obtain⟨z0,z1,m,hz,_,k0,k1⟩:=trod_struct2 hw h0;simp[s0,s1,q0,q1,Tryz.cells9]at k0 k1;obtain⟨vG,rfl,r0,_⟩:=Kg rfl k0;obtain⟨vid,rfl,r1,_⟩:=Kg rfl k1;obtain⟨qt,rfl,r2,_⟩:=Kg rfl h1;obtain⟨vt,rfl,r3,_⟩:=Kg rfl h2;obtain⟨b,e,_⟩:=DataW.trod_int Tryz.underlying3 h3;simp at e;subst e;have hd:d=.agg [y0.1,y1.1,y2.1,y3.1]:=congrArg Prod.fst hx;have hy:y0.1=.agg [z0.1,z1.1]:=congrArg Prod.fst hz;refine⟨vG,vid,qt,vt,b,rfl,?_,?_,?_⟩<;>(rw[hd];simp only[Rows.uptoBulk,Rows.uptoBulkAll,hy])<;>omega
theorem ZG{W:World}(h:laidMetH Tryz.prog Rows.budgetsUptoRow.laid W):Lib.TabIs Tryz.prog W "internal/strconv.uint64pow10" .u64 Lib.pow10Tab:=by
 have h':laidMet Tryz.prog Rows.budgetsUptoRow.laid W:=h;obtain⟨ps,hv,_⟩:=h';obtain⟨_,_,_,_,_,_,_,_,_,_,hv,_⟩:=hv;obtain⟨_,_,_,_,_,_,_,_,_,_,hv,_⟩:=hv;obtain⟨g,t,cs,fuel,p,q,hg,ht,hvar,hd,_,_⟩:=hv;have e1:Tryz.prog.globalNamed "internal/strconv.uint64pow10" =some 1:=by kernel_rfl
 have e2:(Tryz.prog.globals[1]?).map (·.type)=some 373:=by kernel_rfl
 obtain rfl:=tY (e1.symm.trans hg);obtain rfl:=tY (e2.symm.trans ht);have e3:(Rows.laid_internal_strconv_uint64pow10:DataW Unit)=Lib.tabData .u64 Lib.pow10Tab:=by rfl
 rw[e3]at hd;unfold Lib.TabIs;rw[hvar,<-Lib.cells_of_tab Tryz.underlying373 Tryz.underlying367 (by kernel_rfl) (by kernel_rfl) hd]
theorem ZB(H:Type)(enc:TypeId×Value->H)(W:World)(base:Nat)(args:Array Value)(ds gs:List (DataW H))(before:List MemPlace)
 (hval:∀(j:Nat) t v,Tryz.f3.params[j]?=some t->args[j]?=some v->Value.okWide Tryz.prog W .any base t v)
 (hW:DataW.Whole enc Tryz.prog Tryz.f3.params.toList Rows.budgetsSpec.vars false W args.toList ds gs before) (hk:Rows.uptoSmall H (ds++gs)=true) (hL:laidMetH Tryz.prog Rows.budgetsUptoRow.laid W):
 Calls Tryz.prog 3 args W fun e W'=>∃v,e=.returned v/\Rows.budgetsSpec.post enc Tryz.prog Tryz.f3 false true false false W args v W':=by
 have hW':=hW;have hlt:=hW.lt;obtain⟨p,q,hA0,hV,rfl,hfz,hnd⟩:=hW;have hA:DataW.TrodAll enc Tryz.prog W 0 (fun _=>true) true Tryz.f3.params.toList args.toList ds p:=hA0;rw[Tryz.params3]at hA hval;obtain⟨v0,vs0,d0,ds0,p0,q0,hargs,rfl,rfl,h0,r0⟩:=trodAll_cons hA;obtain⟨v1,vs1,d1,ds1,p1,q1,rfl,rfl,rfl,h1,r1⟩:=trodAll_cons r0;obtain⟨v2,vs2,d2,ds2,p2,q2,rfl,rfl,rfl,h2,r2⟩:=trodAll_cons r1;obtain⟨v3,vs3,d3,ds3,p3,q3,rfl,rfl,rfl,h3,r3⟩:=trodAll_cons r2;obtain⟨rfl,rfl,rfl⟩:=trodAll_nil r3;obtain rfl:args=#[v0,v1,v2,v3]:=by cases args;simp_all
 obtain⟨rfl,rfl⟩:=trodVars_none hV;obtain⟨x,rfl,rfl,rfl,hx⟩:=open_string Tryz.underlying9 (hval 0 9 v0 rfl rfl) h0;obtain⟨vG,vid,qt,vt,b,rfl,b1,b2,b3⟩:=Zk (hval 2 26 v2 rfl rfl) h2;obtain⟨more,rfl,rfl,rfl,hm⟩:=open_int Tryz.underlying3 (hval 3 3 v3 rfl rfl) h3;obtain⟨aS,lS,cS,rfl⟩:=okWide_slice Tryz.underlying22 (hval 1 22 v1 rfl rfl);obtain⟨fuel,hf⟩:=id h1;obtain⟨aY,cY,ys,e,hY,hn,hc⟩:=qO (x:=(d1,p1)) (by simpa [Value.cells]using hf);cases e;have hb:Rows.uptoBulkAll ([DataW.lit (.string x.data.toList),d1,d2,DataW.lit (.int .i64 more)]:List (DataW H))<=1048576:=by
  have:=of_decide_eq_true hk;simpa using this
 have hxs:x.data.toList.length=x.size:=by rw[Array.length_toList];rfl
 simp only[Rows.uptoBulkAll,Rows.uptoBulk,hxs]at hb;simp only at hn hc;have hb1:=NZ d1;have hmm:Bx more:=bounds_i64 hm;clear hA0 hA hf hk;refine(ZA x W (by omega) aS cS ys hY ⟨by omega,fun y hy=>?_⟩ (fW (ZG hL)) vG vid qt vt b more (by omega) (by omega) (by omega) hmm).mono fun e W' ⟨he,bel⟩=>?_
 ·obtain⟨c1,c2,c3⟩:=hc y hy
  exact⟨by omega,by omega,fun c hc=>by have:=c3 c hc;omega⟩
 ·subst he
  simp only[List.append_nil]at hW' hlt;exact⟨_,rfl,_,_,_,[],_,[],hW',trodAll_mk1 (shut_bool Tryz.underlying4 _),(trodAll_cons_mk (shut_string Tryz.underlying9 hx) (trodAll_cons_mk (Below.trod Tr (by kernel_rfl) (of_decide_eq_true (by kernel_rfl)) h1 bel (fun z hz=>hlt z (by simp[hz]))) (trodAll_cons_mk (Below.trod Tr (by kernel_rfl) (of_decide_eq_true (by kernel_rfl)) h2 bel (fun z hz=>hlt z (by simp[hz]))) (trodAll_cons_mk (shut_int Tryz.underlying3 hm) trodAll_mk0)))),rfl,bel.frame _,fun h=>by cases h⟩
end Go.Proofs.YtadneapobijejaaGreatDoor
