import Derived.Test.YtadneapobijejaaGreatDoorC13
import Derived.Test.YtadneapobijejaaGreatDoorC10
namespace Go.Proofs.YtadneapobijejaaGreatDoor
set_option maxHeartbeats 20000000
set_option maxRecDepth 100000
open Go.RowKit Tryz
theorem qY(x:vD)(v:Value)(l:List vD)(w:World)(h:DK w v l)(hl:l.length<=1000000):
 Calls prog 236 #[v,.string x] w fun e w'=>e=.returned (.int .i64 (Ae l x))/\w'=w:=by
 obtain⟨a,cap,rfl,hcap,h3⟩:=h;generalize hq:Ae l x=q;have HQ:=Aa hq;have H3:=Aa h3;clear hq h3;go_enter func236,ntmps236;go_wp2_with fail;go_loopg [5,8] l.length (fun m v5 v8 wr=>∃k:Nat,v8=.int .i64 k/\k<=l.length/\l.length-k<=m/\wr=w/\∀y∈l.take k,y≠x)
 case atStart=>exact⟨0,rfl,tU _,tL _,rfl,by simp⟩
 case round=>
  obtain⟨k,rfl,hk,hm,hw,hc⟩:=hrel;have hw:=hw.symm;subst hw;have HC:=Aa hc;clear hc;by_cases hlt:k<l.length
  ·obtain⟨g,off,ha,h4⟩:∃g off,a=some ⟨g,off,none⟩/\∀j x,l[j]?=some x->w.cell? ⟨g,off+j,none⟩=some (.string x):=by
    rcases H3.o with e|e
    ·rw[e]at hlt;simp at hlt
    ·exact e
   subst ha;have hx:=tN hlt;have hcell:=h4 k _ hx;have HX:=Aa hx;clear h4 hx;generalize l[k]=y at*;cases hy:(x.toList==y.toList)
   ·go_wp2_with fail
    go_roundg (l.length-(k+1))
    case measure=>omega
    case rel=>exact⟨k+1,by go_num,by omega,tL _,rfl,by
     rw[uG,HX.o];intro z hz;rcases uZ.1 hz with hz|hz
     ·exact HC.o z hz
     ·simp at hz;subst hz;rw[Cr]at hy;intro e;rw[e]at hy;simp at hy⟩
   ·go_wp2_with fail
    go_ret;exact⟨CG (by rw[<-HQ.o];rw[Cr]at hy;simp only[uF]at hy;subst hy;unfold Ae;rw[Jt l _ 0 k HC.o HX.o];simp),rfl⟩
  ·go_wp2_with fail
   go_ret;exact⟨CG (by
    rw[<-HQ.o];have:=HC.o;rw[tW (by omega)]at this;unfold Ae;rw[JW l x 0 this]),rfl⟩
theorem LC:∀(l:List vD) (x:vD),x∈l->0<=Ae l x:=by
 have key:∀(l:List vD) (x:vD) (n:Nat),x∈l->0<=EX l x n:=by
  intro l
  induction l with
  |nil=>intro x n h;simp at h
  |cons y ys ih=>
   intro x n h;rw[EX];split
   ·omega
   ·rename_i hne
    exact ih x (n+1) ((vB.1 h).resolve_left (fun e=>hne e.symm))
 exact fun l x h=>key l x 0 h
theorem Nw(x:vD)(v:Value)(l:List vD)(w:World)(h:DK w v l)(hl:l.length<=1000000):
 Calls prog 216 #[v,.string x] w fun e w'=>e=.returned (.bool (AS x l))/\w'=w:=by
 have hi:=qY x v l w h hl;obtain⟨a,cap,rfl,_⟩:=h;have HM:=Aa (show AS x l=decide ((0:Int)<=Ae l x)from by
  rw[Bool.eq_iff_iff,Fv,uF];constructor
  ·intro hx
   rcases Int.lt_or_le (Ae l x) 0 with q|q
   ·exfalso
    rcases List.getElem?_of_mem hx with⟨k,hk⟩;exact absurd q (fun q=>by
     have:=LC l x hx;omega)
   ·exact q
  ·intro hq
   obtain⟨k,y,h1,h2,h3,_⟩:=Cl (fun z=>z) l x (by simpa using Int.not_lt.2 hq);exact h3▸tO h2)
 generalize AS x l=q at*;go_enter func216,ntmps216;go_wp2_with fail;refine hi.mono ?_;rintro _ w' ⟨rfl,hw'⟩;have hw':=hw'.symm;subst hw';go_wp2_with fail;go_ret;exact⟨Ak (by rw[HM.o]),rfl⟩
structure DM(w:World)(v:Nat)(id:vD)(roles:List vD):Prop where
 b:∃a c,w.heap[v]?=some (.cells #[.string id,.slice a roles.length c] 110 (0,0))/\DK w (.slice a roles.length c) roles
 l:roles.length<=1000000
theorem DM.below{w w':World}{v:Nat}{id:vD}{roles:List vD}(h:DM w v id roles)(hb:vE w w'):DM w' v id roles:=by
 obtain⟨⟨a,c,h1,h2⟩,h3⟩:=h;exact⟨⟨a,c,(hb.block _ (Ab h1)).trans h1,h2.below hb⟩,h3⟩
section
variable {w:World} {v:Nat} {id:vD} {roles:List vD}
theorem Yj(h:DM w v id roles)(x:vD):Calls prog 234 #[.pointer (some ⟨v,0,none⟩),.string x] w fun e w'=>e=.returned (.bool (AS x roles))/\w'=w:=by
 obtain⟨⟨a,c,h1,h2⟩,h3⟩:=h;have hc:=Nw x _ roles w h2 h3;have cv:=Ac h1;generalize AS x roles=q at*;clear h1 h2;go_enter func234,ntmps234;go_wp2_with fail;refine hc.mono ?_;rintro _ w' ⟨rfl,hw'⟩;have hw':=hw'.symm;subst hw';go_wp2_with fail;go_ret;exact⟨rfl,rfl⟩
def Dy(roles:List vD)(x:vD):Bool:=decide (x=bE)||AS x roles
theorem Ym(h:DM w v id roles)(x:vD):Calls prog 211 #[.pointer (some ⟨v,0,none⟩),.string x] w fun e w'=>e=.returned (.bool (Dy roles x))/\w'=w:=by
 have hc:=Yj h x;have HQ:=Aa (show Dy roles x=(x.toList.isEmpty||AS x roles)from by unfold Dy;rw[KF]);generalize Dy roles x=q at*;generalize AS x roles=m at*;clear h;cases he:x.toList.isEmpty
 ·go_enter func211,ntmps211
  go_wp2_with fail;refine hc.mono ?_;rintro _ w' ⟨rfl,hw'⟩;have hw':=hw'.symm;subst hw';go_wp2_with fail;go_ret;exact⟨Ak (by rw[HQ.o,he];rfl),rfl⟩
 ·go_enter func211,ntmps211
  go_wp2_with fail;go_ret;exact⟨Ak (by rw[HQ.o,he];rfl),rfl⟩
theorem sX(h:DM w v id roles){g o:Nat}{f:Al}{u:Value}(hf:Ce w g o f u):Calls prog 184 #[.pointer (some ⟨v,0,none⟩),.pointer (some ⟨g,o,none⟩)] w fun e w'=>e=.returned (.bool (!Dy roles f.auth))/\w'=w:=by
 have hc:=Ym h f.auth;have c:=hf.c1;generalize Dy roles f.auth=m at*;clear h hf;go_enter func184,ntmps184;go_wp2_with fail;refine hc.mono ?_;rintro _ w' ⟨rfl,hw'⟩;have hw':=hw'.symm;subst hw';go_wp2_with fail;go_ret;exact⟨rfl,rfl⟩
theorem Yk(h:DM w v id roles){g o:Nat}{f:Al}{u:Value}(hf:Ce w g o f u):Calls prog 172 #[.pointer (some ⟨v,0,none⟩),.pointer (some ⟨g,o,none⟩)] w fun e w'=>e=.returned (.bool (!Dy roles f.hide_))/\w'=w:=by
 have hc:=Ym h f.hide_;have c:=hf.c2;generalize Dy roles f.hide_=m at*;clear h hf;go_enter func172,ntmps172;go_wp2_with fail;refine hc.mono ?_;rintro _ w' ⟨rfl,hw'⟩;have hw':=hw'.symm;subst hw';go_wp2_with fail;go_ret;exact⟨rfl,rfl⟩
theorem Sk{g o:Nat}{f:Al}{u:Value}(hf:Ce w g o f u):Calls prog 109 #[.pointer (some ⟨g,o,none⟩)] w fun e w'=>e=.returned (.bool (decide (f.arg=CI)))/\w'=w:=by
 have c:=hf.c3;have HQ:=Aa (show decide (f.arg=CI)=(f.arg.toList==[105,100])from by rw[<-Cr,Lib.toList_data CI];rfl);generalize decide (f.arg=CI)=q at*;clear hf;go_enter func109,ntmps109;go_wp2_with fail;go_ret;exact⟨Ak (by rw[HQ.o]),rfl⟩
end
def IK(k:Nat)(c:vD):Bool:=if k=1 then(c.toList==[73,110,116])else if k=2 then((c.toList==[83,116,114,105,110,103])||(c.toList==[73,68]))else if k=3\/k=4 then(c.toList==[66,111,111,108,101,97,110])else false
theorem Uy(w:World)(k:Nat)(n:Int)(t c:vD):Calls prog 76 #[.agg #[.int .i64 k,.int .i64 n,.string t],.string c] w fun e w'=>e=.returned (.bool (IK k c))/\vE w w':=by
 have HQ:=Aa (IK.eq_1 k c);generalize IK k c=q at*;have hk:k=1\/k=2\/k=3\/k=4\/(k≠1/\k≠2/\k≠3/\k≠4):=by omega
 rcases hk with rfl|rfl|rfl|rfl|⟨h1,h2,h3,h4⟩;all_goals
  have HQ2:=Aa HQ.o;simp[*]at HQ2;clear HQ
 case inr.inl=>
  cases hs:(c.toList==[83,116,114,105,110,103])<;>rw[hs]at HQ2;all_goals
   go_enter func76,ntmps76;go_wp2_with fail;go_ret;exact⟨Ak (by rw[HQ2.o];simp),bA (tM _ _) _⟩
 all_goals
  go_enter func76,ntmps76;go_wp2_with fail;go_ret;exact⟨Ak (by rw[HQ2.o]),bA (tM _ _) _⟩
def Gs(id:vD)(k:Nat)(n:Int)(t:vD):Nat×Int×vD:=if k=5 then(2,0,id)else(k,n,t)
theorem kA(w:World)(v:Nat)(id:vD)(roles:List vD)(h:DM w v id roles)(k:Nat)(n:Int)(t:vD):Calls prog 252 #[.pointer (some ⟨v,0,none⟩),.agg #[.int .i64 k,.int .i64 n,.string t]] w fun e w'=>e=.returned (.agg #[.int .i64 (Gs id k n t).1,.int .i64 (Gs id k n t).2.1,.string (Gs id k n t).2.2])/\vE w w':=by
 obtain⟨⟨a,c,h1,_⟩,_⟩:=h;have cv:=Ac h1;have hl:=Ab h1;have hl1:v<w.heap.size+1:=by omega
 clear h1;by_cases hk:k=5
 ·subst hk
  go_enter func252,ntmps252;go_wp2_with fail;refine bodyPost_ret (v:=.agg #[.int .i64 2,.int .i64 0,.string id]) (by simp[results,results252,go_sem]) rfl ⟨rfl,?_⟩;repeat' with_reducible first|exact tM _ _|refine bA ?_ _|refine bS ?_ _ (by show _<=_;omega) _
 ·have hk':((k:Int)==5)=false:=by simp;omega
  have HM:=Aa (show Gs id k n t=(k,n,t)from by unfold Gs;rw[uB hk]);rw[HM.o];go_enter func252,ntmps252;go_wp2_with fail;refine bodyPost_ret (v:=.agg #[.int .i64 k,.int .i64 n,.string t]) (by simp[results,results252,go_sem]) rfl ⟨rfl,?_⟩;repeat' with_reducible first|exact tM _ _|refine bA ?_ _|refine bS ?_ _ (by show _<=_;omega) _
structure BR where
 g:Nat
 o:Nat
 f:Al
 u:Value
 t:vD
 c:FV
def KX(c:BR):List Value:=[.pointer (some ⟨c.g,c.o,none⟩),.string c.t,.int .i64 c.c.sh,.int .i64 c.c.n,.string c.c.s,.slice c.c.la c.c.ln c.c.lc]
def Ge(w:World)(v:Value)(l:List BR):Prop:=∃a cap,v=.slice a l.length cap/\l.length<=cap/\(l=[]\/∃g off,a=some ⟨g,off,none⟩/\∀j c,l[j]?=some c->(∀i,i<6->w.cell? ⟨g,off+j*6+i,none⟩=(KX c)[i]?)/\Ce w c.g c.o c.f c.u)
theorem Ge.below{w w':World}{v:Value}{l:List BR}(h:Ge w v l)(hb:vE w w'):Ge w' v l:=by
 obtain⟨a,cap,h1,h2,h3⟩:=h;refine⟨a,cap,h1,h2,h3.imp (fun e=>e) ?_⟩;rintro⟨g,off,ha,hh⟩;refine⟨g,off,ha,fun j c hj=>⟨fun i hi=>?_,((hh j c hj).2).below hb⟩⟩;have q:=(hh j c hj).1 i hi;rw[tN (show i<(KX c).length from hi)]at q⊢;exact Ah hb q
theorem Ge.at{w:World}{a:Option Addr}{cap j:Nat}{l:List BR}{c:BR}(h:Ge w (.slice a l.length cap) l)(hj:l[j]?=some c):∃g off,a=some ⟨g,off,none⟩/\w.cell? ⟨g,off+j*6,none⟩=some (.pointer (some ⟨c.g,c.o,none⟩))/\w.cell? ⟨g,off+j*6+1,none⟩=some (.string c.t)/\w.cell? ⟨g,off+j*6+2,none⟩=some (.int .i64 c.c.sh)/\w.cell? ⟨g,off+j*6+3,none⟩=some (.int .i64 c.c.n)/\w.cell? ⟨g,off+j*6+4,none⟩=some (.string c.c.s)/\w.cell? ⟨g,off+j*6+5,none⟩=some (.slice c.c.la c.c.ln c.c.lc)/\Ce w c.g c.o c.f c.u:=by
 obtain⟨a',cap',e,_,h3⟩:=h;cases e;rcases h3 with e|⟨g,off,ha,hh⟩
 ·rw[e]at hj;simp at hj
 ·obtain⟨q,hf⟩:=hh j c hj
  exact⟨g,off,ha,q 0 (by omega),q 1 (by omega),q 2 (by omega),q 3 (by omega),q 4 (by omega),q 5 (by omega),hf⟩
def Cv(c:BR):vD:=c.f.name
theorem ZQ(w:World)(Z:Nat)(x:vD)(c:BR)(hf:Ce w c.g c.o c.f c.u)(hz:w.cell? ⟨Z,0,none⟩=some (.string x)):
 Calls prog 156 #[.agg #[.pointer (some ⟨c.g,c.o,none⟩),.string c.t,.int .i64 c.c.sh,.int .i64 c.c.n,.string c.c.s,.slice c.c.la c.c.ln c.c.lc],.pointer (some ⟨Z,0,none⟩)] w fun e w'=>e=.returned (.bool (c.f.name.toList==x.toList))/\vE w w':=by
 have hzl:Z<w.heap.size:=tR w _ hz;have hgl:c.g<w.heap.size:=tR w _ hf.c0;have f0:=hf.c0;clear hf;go_enter func156,ntmps156;go_wp2_with fail;go_quiet (fail);go_wp2_with fail;go_ret;exact⟨rfl,below_drewN (bA (tM _ _) _) _⟩
theorem eJ(w:World)(v:Value)(Z:Nat)(x:vD)(l:List BR)(h:Ge w v l)(hl:l.length<=1000000)(hz:w.cell? ⟨Z,0,none⟩=some (.string x)):
 Calls prog 155 #[v,.func (Fn.func 156) #[] #[.pointer (some ⟨Z,0,none⟩)]] w fun e w'=>e=.returned (.int .i64 (Ae (l.map Cv) x))/\vE w w':=by
 have H0:=Aa h;have HZ:=Aa hz;obtain⟨a,cap,rfl,_⟩:=h;have hzl:Z<w.heap.size:=tR w _ hz;generalize hq:Ae (l.map Cv) x=q;have HQ:=Aa hq;clear hq hz;go_enter func155,ntmps155;go_wp2_with fail;go_loopg [5,8] l.length (fun m v5 v8 wr=>∃k:Nat,v8=.int .i64 k/\k<=l.length/\l.length-k<=m/\vE w wr/\∀y∈(l.map Cv).take k,y≠x)
 case atStart=>exact⟨0,rfl,tU _,tL _,tM _ _,by simp⟩
 case round=>
  obtain⟨k,rfl,hk,hm,hb,hc⟩:=hrel;have HC:=Aa hc;have HB:=Aa hb;clear hc;by_cases hlt:k<l.length
  ·obtain⟨c,hx⟩:∃c,l[k]?=some c:=⟨_,tN hlt⟩
   obtain⟨g,off,ha,c0,c1,c2,c3,c4,c5,hf⟩:=(H0.o.below hb).at hx;subst ha;have hgl:g<wr.heap.size:=tR wr _ c0;have hcl:=ZQ wr Z x c hf (Ah hb HZ.o);have HX:=Aa (show(l.map Cv)[k]?=some (Cv c)from by rw[uD,hx];rfl);clear hf hx hb;cases hy:(c.f.name.toList==x.toList)
   ·rw[hy]at hcl
    have HY:=Aa (show Cv c≠x from fun e=>by
     rw[Cr]at hy;simp only[decide_eq_false_iff_not]at hy;exact hy e)
    clear hy;go_wp2_with fail;refine hcl.mono ?_;rintro _ w1 ⟨rfl,hb1⟩;have hbb:=bT HB.o hb1;clear hcl hb1;go_wp2_with fail;go_roundg (l.length-(k+1))
    case measure=>omega
    case rel=>exact⟨k+1,by go_num,by omega,tL _,hbb,by
     rw[uG,HX.o];intro z hz;rcases uZ.1 hz with hz|hz
     ·exact HC.o z hz
     ·simp at hz;subst hz;exact HY.o⟩
   ·rw[hy]at hcl
    have HY:=Aa (show Cv c=x from by rw[Cr]at hy;exact of_decide_eq_true hy);clear hy;go_wp2_with fail;refine hcl.mono ?_;rintro _ w1 ⟨rfl,hb1⟩;have hbb:=bT HB.o hb1;clear hcl hb1;go_wp2_with fail;go_ret;exact⟨CG (by rw[<-HQ.o];unfold Ae;rw[Jt (l.map Cv) x 0 k HC.o (by rw[HX.o,HY.o])];simp),hbb⟩
  ·go_wp2_with fail
   go_ret;exact⟨CG (by
    rw[<-HQ.o];have:=HC.o;rw[tW (by simp;omega)]at this;unfold Ae;rw[JW (l.map Cv) x 0 this]),hb⟩
theorem WF(w:World)(g o:Nat)(v:Value)(x:vD)(l:List BR)(hv:w.cell? ⟨g,o+2,none⟩=some v)(h:Ge w v l)(hl:l.length<=1000000):
 Calls prog 110 #[.pointer (some ⟨g,o,none⟩),.string x] w fun e w'=>e=.returned (.int .i64 (Ae (l.map Cv) x))/\vE w w':=by
 have H0:=Aa h;obtain⟨a,cap,rfl,_⟩:=h;have hgl:g<w.heap.size:=tR w _ hv;have HC:=Aa (fun W Z (hW:vE w W) (hz:W.cell? ⟨Z,0,none⟩=some (.string x))=>eJ W (.slice a l.length cap) Z x l (H0.o.below hW) hl hz);generalize Ae (l.map Cv) x=q at*;go_enter func110,ntmps110;go_wp2_with fail;refine(HC.o _ _ (bA (tM _ _) _) (by simp)).mono ?_;rintro _ w1 ⟨rfl,b1⟩;go_wp2_with fail;go_ret;exact⟨rfl,bT (bA (tM _ _) _) b1⟩
def EC(l:List BR)(x:vD):FV:=if Ae (l.map Cv) x<0 then Lx else match l[(Ae (l.map Cv) x).toNat]? with
 |some c=>c.c
 |none=>Lx
theorem TK(w:World)(g o:Nat)(v:Value)(x:vD)(l:List BR)(hv:w.cell? ⟨g,o+2,none⟩=some v)(h:Ge w v l)(hl:l.length<=1000000):
 Calls prog 187 #[.pointer (some ⟨g,o,none⟩),.string x] w fun e w'=>e=.returned (Ck (EC l x))/\vE w w':=by
 have H0:=Aa h;have HC:=Aa (fun W (hW:vE w W)=>WF W g o v x l (Ah hW hv) (h.below hW) hl);have HV:=Aa hv;obtain⟨a,cap,rfl,_⟩:=h;have hgl:g<w.heap.size:=tR w _ hv;have HQ:=Aa (EC.eq_1 l x);generalize EC l x=q at*;clear hv;by_cases hneg:Ae (l.map Cv) x<0
 ·have HF:=Aa (show q=Lx from by rw[HQ.o,uC hneg])
  generalize Ae (l.map Cv) x=fi at*;go_enter func187,ntmps187;go_wp2_with fail;refine(HC.o _ (bA (tM _ _) _)).mono ?_;rintro _ w1 ⟨rfl,b1⟩;have hR:=(b1.block _ (by simp)).trans (Wk w (.cells #[.int .i64 0,.int .i64 0,.string ⟨#[]⟩,.slice none 0 0] 238));have c:=Ac hR;have f:=Am hR;have hB:=Aa (bT (bA (tM w.heap.size w) _) b1);clear hR b1;go_wp2_with fail;refine bodyPost_ret (v:=.agg #[.int .i64 0,.int .i64 0,.string ⟨#[]⟩,.slice none 0 0]) (by simp[results,results187,go_sem,c]) rfl ⟨by rw[HF.o];rfl,?_⟩;repeat' with_reducible first|exact hB.o|refine bA ?_ _|refine bS ?_ _ (tL _) _
 ·obtain⟨k,c,hk,hc,_,hkl⟩:=Cl Cv l x hneg
  have HF:=Aa (show q=c.c from by rw[HQ.o,uB hneg,hk,uO,hc]);rw[hk]at HC;have HCC:=Aa hc;clear hneg hk HQ hc;go_enter func187,ntmps187;go_wp2_with fail;refine(HC.o _ (bA (tM _ _) _)).mono ?_;rintro _ w1 ⟨rfl,b1⟩;have hR:=(b1.block _ (by simp)).trans (Wk w (.cells #[.int .i64 0,.int .i64 0,.string ⟨#[]⟩,.slice none 0 0] 238));have cr:=Ac hR;have fr:=Am hR;have hlR:=Ab hR;have hB0:=bT (bA (tM w.heap.size w) (.cells #[.int .i64 0,.int .i64 0,.string ⟨#[]⟩,.slice none 0 0] 238)) b1;have hv:=Ah hB0 HV.o;have hgl1:g<w1.heap.size:=tR w1 _ hv;obtain⟨gC,off,ha,c0,c1,c2,c3,c4,c5,_⟩:=(H0.o.below hB0).at HCC.o;subst ha;have hgC:gC<w1.heap.size:=tR w1 _ c0;have hB:=Aa hB0;clear hR b1 hB0 HC;go_wp2_with fail;refine bodyPost_ret (v:=.agg #[.int .i64 c.c.sh,.int .i64 c.c.n,.string c.c.s,.slice c.c.la c.c.ln c.c.lc]) (by simp[results,results187,go_sem,cr]) rfl ⟨by rw[HF.o];rfl,?_⟩;repeat' with_reducible first|exact hB.o|refine bA ?_ _|refine bS ?_ _ (tL _) _
def GB(w:World)(v:Value)(us:List Value):Prop:=∃a cap,v=.slice a us.length cap/\(us=[]\/∃g off,a=some ⟨g,off,none⟩/\∀j u,us[j]?=some u->w.cell? ⟨g,off+j,none⟩=some u)
theorem GB.below{w w':World}{v:Value}{us:List Value}(h:GB w v us)(hb:vE w w'):GB w' v us:=by
 obtain⟨a,cap,h1,h3⟩:=h;refine⟨a,cap,h1,h3.imp (fun e=>e) ?_⟩;rintro⟨g,off,ha,hh⟩;exact⟨g,off,ha,fun j u hj=>Ah hb (hh j u hj)⟩
theorem GB.at{w:World}{a:Option Addr}{cap j:Nat}{us:List Value}{u:Value}(h:GB w (.slice a us.length cap) us)(hj:us[j]?=some u):∃g off,a=some ⟨g,off,none⟩/\w.cell? ⟨g,off+j,none⟩=some u:=by
 obtain⟨a',cap',e,h3⟩:=h;cases e;rcases h3 with e|⟨g,off,ha,hh⟩
 ·rw[e]at hj;simp at hj
 ·exact⟨g,off,ha,hh j u hj⟩
theorem eW(w:World)(v:Value)(Z Y:Nat)(us:List Value)(qs:List Bool)(h:GB w v us)(hq:qs.length=us.length)(hl:us.length<=1000000)(wD:∀u∈us,∃q,u=.pointer q)
 (hc:∀W,vE w W->∀(j:Nat) (u:Value) (b:Bool),us[j]?=some u->qs[j]?=some b->Calls prog 249 #[u,.pointer (some ⟨Z,0,none⟩),.pointer (some ⟨Y,0,none⟩)] W fun e w'=>e=.returned (.bool b)/\vE W w'):
 Calls prog 254 #[v,.func (Fn.func 249) #[] #[.pointer (some ⟨Z,0,none⟩),.pointer (some ⟨Y,0,none⟩)]] w fun e w'=>(∃r:Int,e=.returned (.int .i64 r)/\decide (0<=r)=qs.any (fun b=>b))/\vE w w':=by
 have H0:=Aa h;have HC:=Aa hc;have HQ:=Aa hq;have HP:=Aa wD;obtain⟨a,cap,rfl,_⟩:=h;clear hc hq wD;go_enter func254,ntmps254;go_wp2_with fail;go_loopg [5,8] us.length (fun m v5 v8 wr=>∃k:Nat,v8=.int .i64 k/\k<=us.length/\us.length-k<=m/\vE w wr/\qs.any (fun b=>b)=(qs.drop k).any (fun b=>b))
 case atStart=>exact⟨0,rfl,tU _,tL _,tM _ _,rfl⟩
 case round=>
  obtain⟨k,rfl,hk,hm,hb,hc⟩:=hrel;have HD:=Aa hc;have HB:=Aa hb;clear hc;by_cases hlt:k<us.length
  ·obtain⟨u,hu⟩:∃u,us[k]?=some u:=⟨_,tN hlt⟩
   obtain⟨b,hbq⟩:∃b,qs[k]?=some b:=⟨_,tN (by rw[HQ.o];exact hlt)⟩;obtain⟨g,off,ha,c0⟩:=(H0.o.below hb).at hu;subst ha;have hcl:=HC.o wr hb k u b hu hbq;obtain⟨qp,hqp⟩:=HP.o u (tO hu);subst hqp;have HDD:=Aa (show qs.any (fun b=>b)=(b||(qs.drop (k+1)).any (fun b=>b))from by
    rw[HD.o];obtain⟨hx,rfl⟩:=tP.1 hbq;rw[uT hx];rfl)
   clear hu hbq hb;cases b
   ·go_wp2_with fail
    refine hcl.mono ?_;rintro _ w1 ⟨rfl,hb1⟩;have hbb:=bT HB.o hb1;clear hcl hb1;go_wp2_with fail;go_roundg (us.length-(k+1))
    case measure=>omega
    case rel=>exact⟨k+1,by go_num,by omega,tL _,hbb,by rw[HDD.o];rfl⟩
   ·go_wp2_with fail
    refine hcl.mono ?_;rintro _ w1 ⟨rfl,hb1⟩;have hbb:=bT HB.o hb1;clear hcl hb1;go_wp2_with fail;go_ret;exact⟨⟨_,rfl,by rw[HDD.o];simp⟩,hbb⟩
  ·go_wp2_with fail
   go_ret;exact⟨⟨_,rfl,by rw[HD.o,uS (by rw[HQ.o];omega)];rfl⟩,hb⟩
theorem Zc(w:World)(v:Value)(Z Y:Nat)(us:List Value)(qs:List Bool)(h:GB w v us)(hq:qs.length=us.length)(hl:us.length<=1000000)(wD:∀u∈us,∃q,u=.pointer q)
 (hc:∀W,vE w W->∀(j:Nat) (u:Value) (b:Bool),us[j]?=some u->qs[j]?=some b->Calls prog 249 #[u,.pointer (some ⟨Z,0,none⟩),.pointer (some ⟨Y,0,none⟩)] W fun e w'=>e=.returned (.bool b)/\vE W w'):
 Calls prog 250 #[v,.func (Fn.func 249) #[] #[.pointer (some ⟨Z,0,none⟩),.pointer (some ⟨Y,0,none⟩)]] w fun e w'=>e=.returned (.bool (qs.any (fun b=>b)))/\vE w w':=by
 have hi:=eW w v Z Y us qs h hq hl wD hc;obtain⟨a,cap,rfl,_⟩:=h;clear hc hq wD;go_enter func250,ntmps250;go_wp2_with fail;refine hi.mono ?_;rintro _ w1 ⟨⟨r,rfl,hr⟩,b1⟩;have HR:=Aa hr;clear hr hi;go_wp2_with fail;go_ret;exact⟨Ak HR.o,b1⟩
theorem eX(w:World)(v:Value)(Z:Nat)(us:List Value)(qs:List Bool)(h:GB w v us)(hq:qs.length=us.length)(hl:us.length<=1000000)(wD:∀u∈us,∃q,u=.pointer q)
 (hc:∀W,vE w W->∀(j:Nat) (u:Value) (b:Bool),us[j]?=some u->qs[j]?=some b->Calls prog 251 #[u,.pointer (some ⟨Z,0,none⟩)] W fun e w'=>e=.returned (.bool b)/\vE W w'):
 Calls prog 254 #[v,.func (Fn.func 251) #[] #[.pointer (some ⟨Z,0,none⟩)]] w fun e w'=>(∃r:Int,e=.returned (.int .i64 r)/\decide (0<=r)=qs.any (fun b=>b))/\vE w w':=by
 have H0:=Aa h;have HC:=Aa hc;have HQ:=Aa hq;have HP:=Aa wD;obtain⟨a,cap,rfl,_⟩:=h;clear hc hq wD;go_enter func254,ntmps254;go_wp2_with fail;go_loopg [5,8] us.length (fun m v5 v8 wr=>∃k:Nat,v8=.int .i64 k/\k<=us.length/\us.length-k<=m/\vE w wr/\qs.any (fun b=>b)=(qs.drop k).any (fun b=>b))
 case atStart=>exact⟨0,rfl,tU _,tL _,tM _ _,rfl⟩
 case round=>
  obtain⟨k,rfl,hk,hm,hb,hc⟩:=hrel;have HD:=Aa hc;have HB:=Aa hb;clear hc;by_cases hlt:k<us.length
  ·obtain⟨u,hu⟩:∃u,us[k]?=some u:=⟨_,tN hlt⟩
   obtain⟨b,hbq⟩:∃b,qs[k]?=some b:=⟨_,tN (by rw[HQ.o];exact hlt)⟩;obtain⟨g,off,ha,c0⟩:=(H0.o.below hb).at hu;subst ha;have hcl:=HC.o wr hb k u b hu hbq;obtain⟨qp,hqp⟩:=HP.o u (tO hu);subst hqp;have HDD:=Aa (show qs.any (fun b=>b)=(b||(qs.drop (k+1)).any (fun b=>b))from by
    rw[HD.o];obtain⟨hx,rfl⟩:=tP.1 hbq;rw[uT hx];rfl)
   clear hu hbq hb;cases b
   ·go_wp2_with fail
    refine hcl.mono ?_;rintro _ w1 ⟨rfl,hb1⟩;have hbb:=bT HB.o hb1;clear hcl hb1;go_wp2_with fail;go_roundg (us.length-(k+1))
    case measure=>omega
    case rel=>exact⟨k+1,by go_num,by omega,tL _,hbb,by rw[HDD.o];rfl⟩
   ·go_wp2_with fail
    refine hcl.mono ?_;rintro _ w1 ⟨rfl,hb1⟩;have hbb:=bT HB.o hb1;clear hcl hb1;go_wp2_with fail;go_ret;exact⟨⟨_,rfl,by rw[HDD.o];simp⟩,hbb⟩
  ·go_wp2_with fail
   go_ret;exact⟨⟨_,rfl,by rw[HD.o,uS (by rw[HQ.o];omega)];rfl⟩,hb⟩
theorem Zd(w:World)(v:Value)(Z:Nat)(us:List Value)(qs:List Bool)(h:GB w v us)(hq:qs.length=us.length)(hl:us.length<=1000000)(wD:∀u∈us,∃q,u=.pointer q)
 (hc:∀W,vE w W->∀(j:Nat) (u:Value) (b:Bool),us[j]?=some u->qs[j]?=some b->Calls prog 251 #[u,.pointer (some ⟨Z,0,none⟩)] W fun e w'=>e=.returned (.bool b)/\vE W w'):
 Calls prog 250 #[v,.func (Fn.func 251) #[] #[.pointer (some ⟨Z,0,none⟩)]] w fun e w'=>e=.returned (.bool (qs.any (fun b=>b)))/\vE w w':=by
 have hi:=eX w v Z us qs h hq hl wD hc;obtain⟨a,cap,rfl,_⟩:=h;clear hc hq wD;go_enter func250,ntmps250;go_wp2_with fail;refine hi.mono ?_;rintro _ w1 ⟨⟨r,rfl,hr⟩,b1⟩;have HR:=Aa hr;clear hr hi;go_wp2_with fail;go_ret;exact⟨Ak HR.o,b1⟩
mutual
def pv:RV->RV
 | .mk sh n s l=>.mk (Cy (sh,n,s)).1 (Cy (sh,n,s)).2.1 (Cy (sh,n,s)).2.2 (LZ l)
def LZ:List RV->List RV
 |[]=>[]
 |t::l=>pv t::LZ l
end
theorem KY:∀l:List RV,LZ l=l.map pv
 |[]=>by rw[LZ];rfl
 |t::l=>by rw[LZ,KY l];rfl
theorem OA(s:St)(h:Ip s=true):pVal s=tl s/\valK s=Cy ((Gq s).sh,(Gq s).n,(Gq s).s)/\Ad s 5=false/\Ad s 11=false/\Ad s 12=false:=by
 have hk:(hd s).k=2\/(hd s).k=3\/((hd s).k=1/\((hd s).s=Ih\/(hd s).s=If\/(hd s).s=Lt)):=by
  unfold Ip Ad Bn at h;simp only[Bool.or_eq_true,uL,beq_iff_eq,uF]at h;rcases h with(((h|h)|h)|h)|h
  ·exact Or.inl h
  ·exact Or.inr (Or.inl h)
  ·exact Or.inr (Or.inr ⟨h.1,Or.inl h.2⟩)
  ·exact Or.inr (Or.inr ⟨h.1,Or.inr (Or.inl h.2)⟩)
  ·exact Or.inr (Or.inr ⟨h.1,Or.inr (Or.inr h.2)⟩)
 have hn:∀K,K≠1->K≠2->K≠3->Ad s K=false:=fun K h1 h2 h3=>by
  unfold Ad;rw[beq_eq_false_iff_ne];rcases hk with h|h|⟨h,_⟩<;>omega
 have n1:If≠Ih:=by decide
 have n2:Lt≠Ih:=by decide
 have n3:Lt≠If:=by decide
 refine⟨?_,?_,hn 5 (by decide) (by decide) (by decide),hn 11 (by decide) (by decide) (by decide),hn 12 (by decide) (by decide) (by decide)⟩
 ·unfold pVal Jd
  rcases hk with h|h|⟨h,e⟩
  ·simp[h]
  ·simp[h]
  ·rcases e with e|e|e<;>simp[h,e,n1,n2,n3]
 ·rcases hk with h|h|⟨h,e⟩
  ·simp[valK,Gq,rk,h,Cy]
  ·simp[valK,Gq,rk,rs,h,Cy]
  ·have hl:Gq s=if (hd s).s=Ih then⟨3,1,⟨#[]⟩,none,0,0⟩else if (hd s).s=If then⟨3,0,⟨#[]⟩,none,0,0⟩else Lx:=by
    unfold Gq rk rs;simp only[h,BN];by_cases e1:(hd s).s=Ih
    ·rw[uC e1];simp[show(hd s).s=Az [116,114,117,101]from e1]
    ·rw[uB e1]
     by_cases e2:(hd s).s=If
     ·rw[uC e2];simp[show(hd s).s=Az [102,97,108,115,101]from e2]<;>decide
     ·rw[uB e2];simp[show¬(hd s).s=Az [116,114,117,101]from e1,show¬(hd s).s=Az [102,97,108,115,101]from e2]
   rw[hl];unfold valK Kk;rcases e with e|e|e<;>simp[h,e,n1,n2,n3,Cy,Lx]
theorem lE(s:St)(h:Ip s=false):pVal s=none:=by
 unfold Ip Ad Bn at h;simp only[Bool.or_eq_false_iff,Bool.and_eq_false_iff,beq_eq_false_iff_ne,decide_eq_false_iff_not]at h;obtain⟨⟨⟨⟨h2,h3⟩,h4⟩,h5⟩,h6⟩:=h;unfold pVal Jd;rw[uB h2,uB h3];split
 ·rename_i e
  rw[uB (h4.resolve_left (fun x=>x e)),uB (h5.resolve_left (fun x=>x e)),uB (h6.resolve_left (fun x=>x e))]
 ·rfl
theorem ZJ(f d:Nat):(Bm (f+2) d (some [])).2=none:=by
 rw[Bm,uB (by simp),uB (by rw[KN 13 (by decide)];decide)];have:(Bg (f+1) (d+1) (some [])).2=none:=by
  rw[Bg,uB (by decide),uB (by rw[KN 5 (by decide)];decide),uB (by rw[KN 11 (by decide)];decide),KN 12 (by decide)];have e:(if 10<=d+1 then none else mustT (some []) false)=none:=by split<;>rfl
  rw[e,Lv]
 rw[this,Lv]
theorem Zn(s:St):Cf s=true->s=none\/s=some []:=by
 unfold Cf
 match s with
 |none=>exact fun _=>Or.inl rfl
 |some []=>exact fun _=>Or.inr rfl
 |some (t::l)=>intro h;simp at h
abbrev NB(w w':World):Nat->Prop:=fun g=>w.heap.size<=g/\g<w'.heap.size
def JN(w:World)(b G:Nat)(k:Nat)(q:RV×St)(e:Ending)(w':World):Prop:=∃v:FV,e=.returned (Ck v)/\PK w w' b G q.2/\(q.2≠none->AX w' (NB w w') k v (pv q.1)/\v.ln<=v.lc)
theorem aH(f d D:Nat)(s:St)(w:World)(b G:Nat)(h:PS w b G s)
 (hL:∀W,PK w W b G (tl s)->Ad s 12=true->Calls prog 203 #[.pointer (some ⟨b,0,none⟩),.int .i64 D] W (JN W b G (f+1) (.mk 5 0 ⟨#[]⟩ (Bm f d (if 10<=d then none else tl s)).1,(Bm f d (if 10<=d then none else tl s)).2))):
 Calls prog 157 #[.pointer (some ⟨b,0,none⟩),.int .i64 D] w (JN w b G (f+1) (Bg (f+1) d s)):=by
 have K0:=Aa h.pk;have hlt:=h.lt;have HL:=Aa hL;have HT:=Aa (fun(K:Nat) W (hW:PK w W b G s)=>Ev W b G s K hW.ps);clear h hL;unfold JN;cases e5:Ad s 5
 rotate_left
 ·have HE:=Aa (show Bg (f+1) d s=(.mk 6 0 ⟨#[]⟩ [],tl s)from by
   rw[Bg,uB (fun e=>by rw[(OA s e).2.2.1]at e5;cases e5),uC e5])
  have H5:=Aa (HT.o 5);rw[e5]at H5;generalize Bg (f+1) d s=q at*;clear e5 HT HL;go_enter func157,ntmps157;go_wp2_with fail;refine(H5.o _ (K0.o.al _)).mono ?_;rintro _ w1 ⟨rfl,h1,k1⟩;have K1:=Aa (show PK w w1 b G (tl s)from(K0.o.al _).call h1 k1);have hz:=k1.at (tS w _) (by omega);have c:=Ac hz;have f:=Am hz;have hl:=Ab hz;clear h1 k1 hz;go_wp2_with fail;rw[HE.o];refine bodyPost_ret (v:=Ck ⟨8,0,⟨#[]⟩,none,0,0⟩) (by simp[results,results157,go_sem,Ck, *]) rfl ⟨⟨8,0,⟨#[]⟩,none,0,0⟩,rfl,?_,fun _=>?_⟩
  ·show PK _ _ _ _ (tl s)
   repeat' with_reducible first|exact K1.o|refine PK.al ?_ _|refine PK.st ?_ _ (tL _) _
  ·exact⟨AX.flat _ ⟨8,0,⟨#[]⟩,none,0,0⟩ rfl,tL _⟩
 have H5:=Aa (HT.o 5);rw[e5]at H5;cases e11:Ad s 11
 rotate_left
 ·have HE:=Aa (show Bg (f+1) d s=(.mk 4 0 (tx (tl s)) [],IZ (tl s))from by
   rw[Bg,uB (fun e=>by rw[(OA s e).2.2.2.1]at e11;cases e11),uB (by rw[e5];decide),uC e11])
  have H11:=Aa (HT.o 11);rw[e11]at H11;have HN:=Aa (fun W (hW:PK w W b G (tl s))=>Cc W b G (tl s) 3 hW.ps);rw[show(Ay (tl s) 3).s=tx (tl s)from by unfold Ay tx;split<;>rfl]at HN;generalize (Ay (tl s) 3).k=nk at*;generalize (Ay (tl s) 3).n=nn at*;generalize Bg (f+1) d s=q at*;generalize tx (tl s)=y at*;have rf:=Pm nk nn y;clear e5 e11 HT HL;go_enter func157,ntmps157;go_wp2_with fail;refine(H5.o _ (K0.o.al _)).mono ?_;rintro _ w1 ⟨rfl,h1,k1⟩;have K1:=Aa ((K0.o.al _).call h1 k1);have HZ1:=Aa (k1.at (tS w _) (by omega));clear h1 k1;go_wp2_with fail;refine(H11.o _ K1.o).mono ?_;rintro _ w2 ⟨rfl,h2,k2⟩;have K2:=Aa (K1.o.call h2 k2);have HZ2:=Aa (k2.at HZ1.o (by omega));clear h2 k2 HZ1;go_wp2_with fail;refine(HN.o _ K2.o).mono ?_;rintro _ w3 ⟨rfl,h3,k3⟩;have K3:=Aa (show PK w w3 b G (IZ (tl s))from K2.o.call h3 k3);have hz:=k3.at HZ2.o (by omega);have c:=Ac hz;have f:=Am hz;have hl:=Ab hz;clear h3 k3 hz;go_wp2_with fail;rw[HE.o];refine bodyPost_ret (v:=Ck ⟨6,0,y,none,0,0⟩) (by simp[results,results157,go_sem,Ck, *]) rfl ⟨⟨6,0,y,none,0,0⟩,rfl,?_,fun _=>?_⟩
  ·show PK _ _ _ _ (IZ (tl s))
   repeat' with_reducible first|exact K3.o|refine PK.al ?_ _|refine PK.st ?_ _ (tL _) _
  ·exact⟨AX.flat _ ⟨6,0,y,none,0,0⟩ rfl,tL _⟩
 have H11:=Aa (HT.o 11);rw[e11]at H11;cases e12:Ad s 12
 rotate_left
 ·have HE:=Aa (show Bg (f+1) d s=(.mk 5 0 ⟨#[]⟩ (Bm f d (if 10<=d then none else tl s)).1,(Bm f d (if 10<=d then none else tl s)).2)from by
   rw[Bg,uB (fun e=>by rw[(OA s e).2.2.2.2]at e12;cases e12),uB (by rw[e5];decide),uB (by rw[e11];decide),e12];rfl)
  have H12:=Aa (HT.o 12);rw[e12]at H12;have HL2:=Aa (fun W (hW:PK w W b G (tl s))=>HL.o W hW e12);rw[<-HE.o]at HL2;generalize Bg (f+1) d s=q at*;clear e5 e11 e12 HT HL HE;go_enter func157,ntmps157;go_wp2_with fail;refine(H5.o _ (K0.o.al _)).mono ?_;rintro _ w1 ⟨rfl,h1,k1⟩;have K1:=Aa ((K0.o.al _).call h1 k1);have HZ1:=Aa (k1.at (tS w _) (by omega));clear h1 k1;go_wp2_with fail;refine(H11.o _ K1.o).mono ?_;rintro _ w2 ⟨rfl,h2,k2⟩;have K2:=Aa (K1.o.call h2 k2);have HZ2:=Aa (k2.at HZ1.o (by omega));clear h2 k2 HZ1;go_wp2_with fail;refine(H12.o _ K2.o).mono ?_;rintro _ w3 ⟨rfl,h3,k3⟩;have K3:=Aa (K2.o.call h3 k3);have HZ3:=Aa (k3.at HZ2.o (by omega));clear h3 k3 HZ2;go_wp2_with fail;refine(HL2.o _ K3.o).mono ?_;rintro _ w4 ⟨v,rfl,k4,hv⟩;have hz:=k4.kp.at HZ3.o (by omega);have c:=Ac hz;have fz:=Am hz;have hl:=Ab hz;have K4:=Aa (K3.o.tr k4);have hl3:=Ab HZ3.o;have HV:=Aa hv;clear k4 hz hv;unfold Ck;go_wp2_with fail;refine bodyPost_ret (v:=Ck v) (by simp[results,results157,go_sem,Ck, *]) rfl ⟨v,rfl,?_,fun e=>?_⟩
  ·repeat' with_reducible first|exact K4.o|refine PK.al ?_ _|refine PK.st ?_ _ (tL _) _
  ·refine⟨?_,(HV.o e).2⟩
   refine(HV.o e).1.frame (fun g hg o=>World.cell?_of_block (a:=⟨g,o,none⟩) (Sd _ _ g (by have:=hg.1;omega) _ _ _ _)) (fun g hg=>⟨by have:=hg.1;omega,by have:=hg.2;simp[World.setCell];omega⟩)
 have H12:=Aa (HT.o 12);rw[e12]at H12;have HV:=Aa (fun W (hW:PK w W b G s)=>NK W b G s hW.ps);have HE:=Aa (show(Ip s=true/\Bg (f+1) d s=(Xy (Gq s),tl s))\/(Ip s=false/\(Bg (f+1) d s).2=none)from by
  cases e:Ip s
  ·right
   refine⟨rfl,?_⟩;rw[Bg,uB (by rw[e];decide),uB (by rw[e5];decide),uB (by rw[e11];decide),e12];have e':(if 10<=d then none else mustT s false)=none:=by split<;>rfl
   rw[e',Lv]
  ·left;exact⟨rfl,by rw[Bg,uC e]⟩)
 have HQ:=Aa (show pVal s=(Bg (f+1) d s).2/\((Bg (f+1) d s).2≠none->pv (Bg (f+1) d s).1=.mk (valK s).1 (valK s).2.1 (valK s).2.2 [])from by
  rcases HE.o with⟨e,e'⟩|⟨e,e'⟩
  ·obtain⟨h1,h2,_⟩:=OA s e
   rw[e'];refine⟨h1,fun _=>?_⟩;show pv (.mk _ _ _ [])=_;rw[pv,LZ,h2]
  ·rw[e',lE s e];exact⟨rfl,fun h=>absurd rfl h⟩)
 rw[HQ.o.1]at HV;generalize Bg (f+1) d s=q at*;generalize (valK s).1=x1 at*;generalize (valK s).2.1=x2 at*;generalize (valK s).2.2=x3 at*;clear e5 e11 e12 HT HL HE;go_enter func157,ntmps157;go_wp2_with fail;refine(H5.o _ (K0.o.al _)).mono ?_;rintro _ w1 ⟨rfl,h1,k1⟩;have K1:=Aa ((K0.o.al _).call h1 k1);have HZ1:=Aa (k1.at (tS w _) (by omega));clear h1 k1;go_wp2_with fail;refine(H11.o _ K1.o).mono ?_;rintro _ w2 ⟨rfl,h2,k2⟩;have K2:=Aa (K1.o.call h2 k2);have HZ2:=Aa (k2.at HZ1.o (by omega));clear h2 k2 HZ1;go_wp2_with fail;refine(H12.o _ K2.o).mono ?_;rintro _ w3 ⟨rfl,h3,k3⟩;have K3:=Aa (K2.o.call h3 k3);have HZ3:=Aa (k3.at HZ2.o (by omega));clear h3 k3 HZ2;go_wp2_with fail;refine(HV.o _ K3.o).mono ?_;rintro _ w4 ⟨rfl,k4⟩;have hz:=k4.kp.at HZ3.o (by omega);have c:=Ac hz;have fz:=Am hz;have hl:=Ab hz;have K4:=Aa (K3.o.tr k4);clear k4 hz;go_wp2_with fail;refine bodyPost_ret (v:=Ck ⟨x1,x2,x3,none,0,0⟩) (by simp[results,results157,go_sem,Ck, *]) rfl ⟨⟨x1,x2,x3,none,0,0⟩,rfl,?_,fun e=>?_⟩
 ·repeat' with_reducible first|exact K4.o|refine PK.al ?_ _|refine PK.st ?_ _ (tL _) _
 ·rw[HQ.o.2 e];exact⟨AX.flat _ ⟨x1,x2,x3,none,0,0⟩ rfl,tL _⟩
attribute [local go_sem ↓] Go.wp_at_zero Go.wp_at_succ
theorem PK.gr{w X Y:World}{b G:Nat}{s:St}(h:PK w X b G s){row:Option Nat}(hg:X.grownBy Y row)(hr:∀k,row=some k->w.heap.size<=k):PK w Y b G s:=⟨h.ps.grown hg hr h.hb h.hg,h.kp.grown hg hr,h.hb,h.hg⟩
theorem PK.own{w X Y:World}{b G B0 size n:Nat}{s:St}{e:TypeId}{v:Value}{xs:List Value}(q:PK w X b G s)(k:Ag b X Y)(ho:X.ownsRow B0 e size v n xs)(hB:w.heap.size<=B0):Y.ownsRow B0 e size v n xs:=by
 refine⟨ho.1,?_⟩;rcases ho.2 with h|⟨g,cap,cur,h1,h2,h3,h4⟩
 ·exact Or.inl h
 ·exact Or.inr ⟨g,cap,cur,h1,h2,(k.block g (Ab h3) (by have:=q.hb;omega)).trans h3,h4⟩
def SF(f:Nat):Prop:=∀(d D:Nat) (s:St) (w:World) (b G:Nat),d+D=10->PS w b G s->2*ln s+1<=f->Calls prog 157 #[.pointer (some ⟨b,0,none⟩),.int .i64 D] w (JN w b G f (Bg f d s))
theorem info238:(prog.info? 238).map (fun i=>(i.zero,i.size,i.bytes))=some (some (.agg #[.int .i64 0,.int .i64 0,.string ⟨#[]⟩,.slice none 0 0]),4,56):=by kernel_rfl
structure Jf(w:World)(B0:Nat)(vL:Value)(fs:List FV)(l:List RV)(k:Nat):Prop where
 e:fs.length=l.length
 sub:∀(i:Nat) (x:FV) (r:RV),fs[i]?=some x->l[i]?=some r->AX w (fun g=>B0<=g/\g<w.heap.size/\vL.ownBlock≠some g) k x (pv r)
theorem Jf.far{w x:World}{B0 k:Nat}{vL:Value}{fs:List FV}{l:List RV}(h:Jf w B0 vL fs l k)(hf:∀g,B0<=g->g<w.heap.size->x.heap[g]?=w.heap[g]?)(hs:w.heap.size<=x.heap.size):Jf x B0 vL fs l k:=
 ⟨h.e,fun i y r hy hr=>(h.sub i y r hy hr).frame (fun g hg o=>World.cell?_of_block (a:=⟨g,o,none⟩) (hf g hg.1 hg.2.1)) (fun _ hg=>⟨hg.1,tV hg.2.1 hs,hg.2.2⟩)⟩
theorem Jf.push{w x:World}{B0 g' cap' k k2:Nat}{vL:Value}{fs:List FV}{l:List RV}{f:FV}{v:RV}(h:Jf w B0 vL fs l k)(hv:AX w (fun g=>B0<=g/\g<w.heap.size/\vL.ownBlock≠some g) k2 f (pv v))(hk:k2<=k)
 (hfar:∀g,B0<=g->g<w.heap.size->vL.ownBlock≠some g->x.heap[g]?=w.heap[g]?) (hwh:vL.ownBlock=some g'\/w.heap.size<=g') (hs:w.heap.size<=x.heap.size):Jf x B0 (.slice (some ⟨g',0,none⟩) (fs.length+1) cap') (fs++[f]) (l++[v]) k:=by
 have key:∀y r m,m<=k->AX w (fun g=>B0<=g/\g<w.heap.size/\vL.ownBlock≠some g) m y (pv r)->AX x (fun g=>B0<=g/\g<x.heap.size/\(Value.slice (some ⟨g',0,none⟩) (fs.length+1) cap').ownBlock≠some g) k y (pv r):=fun y r m hm q=>
  (q.le hm).frame (fun g hg o=>World.cell?_of_block (a:=⟨g,o,none⟩) (hfar g hg.1 hg.2.1 hg.2.2)) (fun g hg=>⟨hg.1,tV hg.2.1 hs,fun e=>by
   have e':g'=g:=tY e;rcases hwh with q|q
   ·exact hg.2.2 (by rw[<-e'];exact q)
   ·have:=hg.2.1;omega⟩)
 refine⟨by simp[h.e],fun i y r hy hr=>?_⟩;rcases Nat.lt_or_ge i fs.length with hi|hi
 ·rw[uI hi]at hy
  rw[uI (by rw[<-h.e];exact hi)]at hr;exact key y r k (tL _) (h.sub i y r hy hr)
 ·have hi2:i=fs.length:=by have:=(tP.1 hy).1;simp at this;omega
  subst hi2;have hx2:y=f:=by simpa using hy.symm
  have hr2:r=v:=by rw[h.e]at hr;simpa using hr.symm
  subst hx2 hr2;exact key _ _ k2 hk hv
theorem mN{w:World}{B n c size:Nat}{e:TypeId}{a:Option Addr}{xs:List Value}(h:w.ownsRow B e size (.slice a n c) n xs):n<=c:=by
 rcases h.2 with⟨e1,e2⟩|⟨g,cap,cur,e1,_,_,hn,_⟩
 ·omega
 ·have:=(Value.slice.inj e1).2.2
  omega
theorem iZ(f d D:Nat)(hD:d+D=10)(ih:∀f0,f0<=f->SF f0)(s:St)(w:World)(b G:Nat)(h:PS w b G s)(hf:2*ln s+2<=f):
 Calls prog 203 #[.pointer (some ⟨b,0,none⟩),.int .i64 D] w (JN w b G (f+1) (.mk 5 0 ⟨#[]⟩ (Bm f d (if 10<=d then none else s)).1,(Bm f d (if 10<=d then none else s)).2)):=by
 obtain⟨iV,hiV,zV0,zV1,zV2⟩:=info_parts info238;have K0:=Aa h.pk;have hlt:=h.lt;have hln:=h.len;have HIH:=Aa ih;have HF:=Aa (fun W (hW:PK w W b G s)=>FO W b G s hW.ps);have HS1:=Aa (show(if 10<=d then none else s)=none\/(if 10<=d then none else s)=s from by split<;>simp);have HS0:=Aa (show(D=0->(if 10<=d then none else s)=none)/\(D≠0->(if 10<=d then none else s)=s)from⟨fun e=>uC (by omega),fun e=>uB (by omega)⟩);clear h ih;generalize (if 10<=d then none else s)=s1 at*;unfold JN;have hl1:ln s1<=801:=by rcases HS1.o with e|e<;>rw[e]<;>first|exact hln|exact tU _
 have HF1:=Aa (show s1=none\/2*ln s1+2<=f from HS1.o.imp (fun e=>e) (fun e=>by rw[e];exact hf));clear HS1;go_enter func203,ntmps203
 go_upto_if 7 with fail
 go_cut [] (fun wc=>PK w wc b G s1/\wc.heap[w.heap.size]?=some (.cells #[.int .i64 0,.int .i64 0,.string ⟨#[]⟩,.slice none 0 0] 238 (0,0)))
 case first=>
  rcases Nat.eq_zero_or_pos D with e|e
  ·subst e
   have e1:=HS0.o.1 rfl;subst e1;go_wp2_with fail;refine(HF.o _ (K0.o.al _)).mono ?_;rintro _ w1 ⟨rfl,h1,k1⟩;go_wp2_with fail;go_meet;exact⟨(K0.o.al _).call h1 k1,k1.at (tS w _) (by omega)⟩
  ·have e1:=HS0.o.2 (by omega)
   subst e1;have hd0:((D:Int)==0)=false:=by simp;omega
   go_wp2_with fail;go_meet;exact⟨K0.o.al _,tS w _⟩
 case rest=>
  obtain⟨k1,hz⟩:=hcut;have K1:=Aa k1;have HZ:=Aa hz;have hzl:=Ab hz;have hb1:=k1.ps.lt;have hw1:=k1.kp.size;clear k1 hz HF;go_wp2_with fail;go_loopg [] (ln s1) (fun k wr=>∃(fs:List FV) (vL:Value) (s':St),ln s'<=k/\PK w wr b G s'/\wr.heap[wc.heap.size]?=some (.cells #[.int .i64 7,.int .i64 0,.string ⟨#[]⟩,vL] 238 (0,0))/\wr.heap[w.heap.size]?=some (.cells #[.int .i64 0,.int .i64 0,.string ⟨#[]⟩,.slice none 0 0] 238 (0,0))/\wr.ownsRow (wc.heap.size+1) 238 4 vL fs.length (fs.flatMap KL)/\fs.length+ln s'<=803/\wc.heap.size+1<=wr.heap.size/\((s'=none/\(Bm f d s1).2=none)\/∃l f',D≠0/\Jf wr (wc.heap.size+1) vL fs l f/\2*ln s'+2<=f'/\f'<=f/\Bm f d s1=(l++(Bm f' d s').1,(Bm f' d s').2)))
  case atStart=>
   refine⟨[],_,s1,tL _,K1.o.al _,tS wc _,(AK _ _ _ hzl).trans HZ.o,uA _ _ _ _,by simp;omega,by simp,?_⟩;by_cases e0:s1=none
   ·exact Or.inl ⟨e0,by rw[e0,Lv]⟩
   ·exact Or.inr ⟨[],f,fun e=>e0 (HS0.o.1 e),⟨rfl,fun i x r hx _=>by simp at hx⟩,HF1.o.resolve_left e0,tL _,rfl⟩
  case round=>
   obtain⟨fs,vL,s',hlk,hk,hN,hR,hown,hlen,hsz,hgo⟩:=hrel;obtain⟨aL,cL,hvL⟩:=An hown;subst hvL;have KR:=Aa hk;have HN:=Aa hN;have HR:=Aa hR;have HOWN:=Aa hown;have HGO:=Aa hgo;have hNl:=Ab hN;have hRl:=Ab hR;have hAE:=Jq wr b G s' hk.ps;clear hk hN hR hown hgo K1 HZ;cases eA:Cf s'
   rotate_left
   ·rw[eA]at hAE
    have HE:=Aa (show(Bm f d s1).2=none/\Ad s' 13=false from by
     rcases HGO.o with⟨e,e'⟩|⟨l,f',_,_,hf',_,e'⟩
     ·rw[e];exact⟨e',Io 13 (by decide)⟩
     ·rw[e']
      rcases Zn s' eA with e|e
      ·rw[e];exact⟨by rw[Lv],Io 13 (by decide)⟩
      ·subst e
       have:4<=f':=hf';obtain⟨f2,rfl⟩:∃f2,f'=f2+2:=⟨f'-2,by omega⟩;exact⟨ZJ f2 d,KN 13 (by decide)⟩)
    have HNE:=Aa (Cc wr b G s' 13 KR.o.ps);rw[HE.o.2]at HNE;generalize (Ay s' 13).k=nk at*;generalize (Ay s' 13).n=nn at*;generalize (Ay s' 13).s=ny at*;clear eA HGO;go_wp2_with fail;refine hAE.mono ?_;rintro _ w' ⟨rfl,hw'⟩;have hw':=hw'.symm;subst hw';go_wp2_with fail;refine HNE.o.mono ?_;rintro _ w2 ⟨rfl,h2,k2⟩;have K2:=Aa (show PK w w2 b G none from KR.o.call h2 k2);have hN2:=k2.at HN.o (by omega);have hR2:=k2.at HR.o (by omega);have c:=Ac hN2;have c2:=Ac hR2;have f2:=Am hR2;have hl2:=Ab hR2;have hlN:=Ab hN2;clear h2 k2 hN2 hR2 hAE;go_wp2_with fail;refine bodyPost_ret (v:=Ck ⟨7,0,⟨#[]⟩,aL,fs.length,cL⟩) (by simp[results,results203,go_sem,Ck, *]) rfl ⟨⟨7,0,⟨#[]⟩,aL,fs.length,cL⟩,rfl,?_,fun e=>absurd HE.o.1 e⟩;rw[HE.o.1];repeat' with_reducible first|exact K2.o|refine PK.al ?_ _|refine PK.st ?_ _ (tL _) _
   ·rw[eA]at hAE
    obtain⟨l,f',hD0,hC,hf',hff,HEQ⟩:∃l f',D≠0/\Jf wr (wc.heap.size+1) (.slice aL fs.length cL) fs l f/\2*ln s'+2<=f'/\f'<=f/\Hi (Bm f d s1=(l++(Bm f' d s').1,(Bm f' d s').2)):=by
     rcases HGO.o with⟨e,e'⟩|⟨l,f',h0,h1,h2,h3,h4⟩
     ·rw[e]at eA;cases eA
     ·exact⟨l,f',h0,h1,h2,h3,Aa h4⟩
    have hne:s'≠none:=fun e=>by rw[e]at eA;cases eA
    have HNE:=Aa hne;have HC:=Aa hC;obtain⟨f2,rfl⟩:∃f2,f'=f2+1:=⟨f'-1,by omega⟩;have hSE:=Aa (GS wr b G s' 13 KR.o.ps);clear hC hne HGO eA;cases e13:Ad s' 13
    rotate_left
    ·have HE2:=Aa (show Bm f d s1=(l,tl s')from by rw[HEQ.o,Bm,uB HNE.o,uC e13];simp)
     have HND:=Aa (fun W (hW:PK w W b G s')=>Cc W b G s' 13 hW.ps);rw[e13]at hSE HND;generalize (Ay s' 13).k=nk at*;generalize (Ay s' 13).n=nn at*;generalize (Ay s' 13).s=ny at*;clear e13 HEQ;go_wp2_with fail;refine hAE.mono ?_;rintro _ w' ⟨rfl,hw'⟩;have hw':=hw'.symm;subst hw';go_wp2_with fail;refine hSE.o.mono ?_;rintro _ w1 ⟨rfl,b1⟩;have K1:=Aa (KR.o.be b1);have hN1:=(b1.block _ hNl).trans HN.o;have hR1:=(b1.block _ hRl).trans HR.o;have HN1:=Aa hN1;have HR1:=Aa hR1;have HC1:=Aa (HC.o.far (fun g _ h2=>b1.block g h2) b1.size);have HO1:=Aa (AT HOWN.o b1);clear b1 hN1 hR1;go_wp2_with fail;refine(HND.o _ K1.o).mono ?_;rintro _ w2 ⟨rfl,h2,k2⟩;have K2:=Aa (show PK w w2 b G (tl s')from K1.o.call h2 k2);have hN2:=k2.at HN1.o (by omega);have hR2:=k2.at HR1.o (by omega);have c:=Ac hN2;have c2:=Ac hR2;have f2:=Am hR2;have hl2:=Ab hR2;have hlN:=Ab hN2;have HC2:=Aa (HC1.o.far (x:=w2) (fun g h1 h2=>k2.block g h2 (by omega)) k2.size);have HO2:=Aa (K1.o.own k2 HO1.o (by omega));clear h2 k2 hN2 hR2 hAE;go_wp2_with fail;refine bodyPost_ret (v:=Ck ⟨7,0,⟨#[]⟩,aL,fs.length,cL⟩) (by simp[results,results203,go_sem,Ck, *]) rfl ⟨⟨7,0,⟨#[]⟩,aL,fs.length,cL⟩,rfl,?_,fun e=>?_⟩
     ·rw[HE2.o]
      show PK _ _ _ _ (tl s');repeat' with_reducible first|exact K2.o|refine PK.al ?_ _|refine PK.st ?_ _ (tL _) _
     ·rw[HE2.o,pv,KY]
      refine⟨?_,mN HO2.o⟩;exact jA (sh:=7) (B0:=wc.heap.size+1) HO2.o (by rw[HC2.o.e,uP]) (fun i x r hx hr=>by
       rw[uD]at hr;obtain⟨r0,h0,rfl⟩:=uY.1 hr;exact HC2.o.sub i x r0 hx h0) (by omega) (fun g hg o=>World.cell?_of_block (a:=⟨g,o,none⟩) (Sd _ _ g (show g≠w.heap.size from by omega) _ _ _ _)) (by simp[World.setCell])
    ·rw[e13]at hSE
     obtain⟨E,hE⟩:∃E:Nat,D=E+1:=⟨D-1,by omega⟩;have hwD:IntKind.i64.wrap ((D:Int)-1)=(E:Int):=by rw[wrap_small _ (by omega) (by omega)];omega
     have HIC:=Aa (fun W (hW:PS W b G s')=>HIH.o f2 (by omega) (d+1) E s' W b G (by omega) hW (by omega));have hl6:=UW (f2-1) (d+1) s' HNE.o;rw[show f2-1+1=f2 from by omega]at hl6;have HE2:=Aa (show Bm f d s1=((l++[(Bg f2 (d+1) s').1])++(Bm f2 d (Bg f2 (d+1) s').2).1,(Bm f2 d (Bg f2 (d+1) s').2).2)from by rw[HEQ.o,Bm,uB HNE.o,uB (by rw[e13];decide)];simp);have HEE:=Aa hE;clear hE;unfold JN at HIC;generalize (Bg f2 (d+1) s').1=r6 at*;generalize (Bg f2 (d+1) s').2=s6 at*;clear e13 HEQ HIH;go_wp2_with fail;refine hAE.mono ?_;rintro _ w' ⟨rfl,hw'⟩;have hw':=hw'.symm;subst hw';go_wp2_with fail;refine hSE.o.mono ?_;rintro _ w1 ⟨rfl,b1⟩;have K1:=Aa (KR.o.be b1);have hN1:=(b1.block _ hNl).trans HN.o;have c1:=Ac hN1;have HN1:=Aa hN1;have HR1:=Aa ((b1.block _ hRl).trans HR.o);have HC1:=Aa (HC.o.far (fun g _ h2=>b1.block g h2) b1.size);have HO1:=Aa (AT HOWN.o b1);have hsz1:=b1.size;clear b1 hN1;have hlN1:=Ab HN1.o;have hbw:=K1.o.hb;have hlr6:ln s6<ln s':=hl6;go_wp2_with fail;go_region_law (first
      |(refine step_append_lies _ (by rfl) _ _ _ (by rfl) (wc.heap.size+1) 238 iV _ 4 56 underlying236 hiV zV0 zV1 zV2 rfl (by decide) _ _ _ (by rfl) (hO6.alloc _) ⟨w6.heap.size,0,none⟩ 1 1 [.int .i64 v.sh,.int .i64 v.n,.string v.s,.slice v.la v.ln v.lc] (by rfl) (by rfl) (Cs _ _ _ _ (by simp)) (mG rfl rfl rfl rfl) (by decide) (by unfold maxLen;omega) (by omega) (by simp;omega) (w6.heap.size+1) (by simp) ?_;intro g cap w7 vJ hgrow hat hg7;have g7:=Kw hO6 hgrow (Nat.lt_succ_self _) hN6;have e7:=Ac g7;have f7:=Am g7;have l7:=Ab g7)
      |(go_simp;go_at_call 157;refine(HIC.o _ ?_).mono ?_;(first|exact K1.o.dr.ps|exact K1.o.ps);rintro _ w6 ⟨v,rfl,k6,hv⟩;unfold Ck;have hN6:=k6.kp.at HN1.o (by omega);have c6:=Ac hN6;have hO6:=(by first|exact K1.o.own k6.kp HO1.o (by omega)|exact K1.o.dr.own k6.kp HO1.o (by omega));have l6:=Ab hN6))
     all_goals(
      have kk:Ag b w1 w6:=(by first|exact k6.kp|exact(Ag.refl _ _).drew.trans k6.kp);have q6:PK w w6 b G s6:=(by first|exact K1.o.tr k6|exact K1.o.dr.tr k6);have hR6:=kk.at HR1.o (by omega);have hC6:=HC1.o.far (x:=w6) (fun g h1 h2=>kk.block g h2 (by omega)) kk.size;have hz7:=hgrow.size;simp at hz7;have hrow:∀k,(Value.slice aL fs.length cL).ownBlock=some k->k<w1.heap.size:=fun k hk=>KV HO1.o k hk;have HX:=Aa (uV (PK.st ((q6.al _).gr hgrow (fun k hk=>tQ (Nat.le_succ_of_le hw1) (hO6.lt k hk).1)) ⟨wc.heap.size,3,none⟩ hw1 (.slice (some ⟨g,0,none⟩) (fs.length+1) cap)) (uV (AI g7 3 (.slice (some ⟨g,0,none⟩) (fs.length+1) cap)) (uV (Lr hO6 hgrow (show w.heap.size<wc.heap.size+1 by omega) hR6 (show w.heap.size≠wc.heap.size by omega) 3 (.slice (some ⟨g,0,none⟩) (fs.length+1) cap)) (Is vJ (Nat.lt_succ_self _) 3 (.slice (some ⟨g,0,none⟩) (fs.length+1) cap)))));have HGO:=Aa (show(s6=none/\(Bm f d s1).2=none)\/∃l2 f',D≠0/\Jf (w7.setCell ⟨wc.heap.size,3,none⟩ (.slice (some ⟨g,0,none⟩) (fs.length+1) cap)) (wc.heap.size+1) (.slice (some ⟨g,0,none⟩) (fs.length+1) cap) (fs++[v]) l2 f/\2*ln s6+2<=f'/\f'<=f/\Bm f d s1=(l2++(Bm f' d s6).1,(Bm f' d s6).2)from by
       by_cases e6:s6=none
       ·left
        exact⟨e6,by rw[HE2.o,e6,Lv]⟩
       ·right
        refine⟨l++[r6],f2,hD0,hC6.push (k2:=f2) ((hv e6).1.frame (fun _ _ _=>rfl) (fun g' hg'=>?_)) (by omega) (fun k h1 h2 h3=>(tX _ _ _ _ (show k≠wc.heap.size by omega)).trans ((hgrow.block k (by simp;omega) (fun e=>h3 e.symm)).trans (AK _ _ _ h2))) (hat.imp (fun e=>e) (fun e=>by omega)) (by simp[World.setCell];omega),by omega,by omega,HE2.o⟩;have h1:w1.heap.size<=g':=hg'.1;exact⟨by omega,hg'.2,fun e=>by have:=hrow g' e;omega⟩)
      clear hgrow vJ hO6 hN6 hR6 q6 g7 hC6 k6 kk hv hat;go_wp2_with fail;go_roundg (ln s6)
      case measure=>omega
      case rel=>exact⟨fs++[v],_,s6,tL _,HX.o.1,HX.o.2.1,HX.o.2.2.1,by rw[uE,List.flatMap_append];exact HX.o.2.2.2,by simp;omega,by simp[World.setCell];omega,HGO.o⟩)
end Go.Proofs.YtadneapobijejaaGreatDoor
