import Derived.Test.YtgbloieahmkcjaaGreatC22
import Derived.Test.YtgbloieahmkcjaaGreatC17
namespace Go.Proofs.YtgbloieahmkcjaaGreat
set_option maxHeartbeats 20000000
set_option maxRecDepth 100000
open Go.RowKit Tryz
theorem DO(x:Ls)(v:Value)(l:List Ls)(w:World)(h:cH w v l)(hl:l.length<=1000000):
 Calls prog 188 #[v,.string x] w fun e w'=>e=.returned (.int .i64 (ah l x))/\w'=w:=by
 obtain⟨a,cap,rfl,Oh,h3⟩:=h;generalize hq:ah l x=q;have HQ:=aa hq;have H3:=aa h3;clear hq h3;go_enter func188,ntmps188;go_wp2_with fail;go_loopg [5,8] l.length (fun m v5 v8 wr=>∃k:Nat,v8=.int .i64 k/\k<=l.length/\l.length-k<=m/\wr=w/\∀y∈l.take k,y≠x)
 case atStart=>exact⟨0,rfl,KU _,KK _,rfl,by simp⟩
 case round=>
  obtain⟨k,rfl,hk,hm,hw,hc⟩:=hrel;have hw:=hw.symm;subst hw;have HC:=aa hc;clear hc;by_cases hlt:k<l.length
  ·obtain⟨g,off,ha,h4⟩:∃g off,a=some ⟨g,off,none⟩/\∀j x,l[j]?=some x->w.cell? ⟨g,off+j,none⟩=some (.string x):=by
    rcases H3.o with e|e
    ·rw[e]at hlt;simp at hlt
    ·exact e
   subst ha;have hx:=KM hlt;have LQ:=h4 k _ hx;have HX:=aa hx;clear h4 hx;generalize l[k]=y at*;cases hy:(x.toList==y.toList)
   ·go_wp2_with fail
    go_roundg (l.length-(k+1))
    case measure=>omega
    case rel=>exact⟨k+1,by go_num,by omega,KK _,rfl,by
     rw[Ld,HX.o];intro z hz;rcases List.mem_append.1 hz with hz|hz
     ·exact HC.o z hz
     ·simp at hz;subst hz;rw[bY]at hy;intro e;rw[e]at hy;simp at hy⟩
   ·go_wp2_with fail
    go_ret;exact⟨dx (by rw[<-HQ.o];rw[bY]at hy;simp only[Lc]at hy;subst hy;unfold ah;rw[lj l _ 0 k HC.o HX.o];simp),rfl⟩
  ·go_wp2_with fail
   go_ret;exact⟨dx (by
    rw[<-HQ.o];have:=HC.o;rw[KW (by omega)]at this;unfold ah;rw[lG l x 0 this]),rfl⟩
theorem un:∀(l:List Ls) (x:Ls),x∈l->0<=ah l x:=by
 have key:∀(l:List Ls) (x:Ls) (n:Nat),x∈l->0<=dK l x n:=by
  intro l
  induction l with
  |nil=>intro x n h;simp at h
  |cons y ys ih=>
   intro x n h;rw[dK];split
   ·omega
   ·rename_i hne
    exact ih x (n+1) ((List.mem_cons.1 h).resolve_left (fun e=>hne e.symm))
 exact fun l x h=>key l x 0 h
theorem uO(x:Ls)(v:Value)(l:List Ls)(w:World)(h:cH w v l)(hl:l.length<=1000000):
 Calls prog 154 #[v,.string x] w fun e w'=>e=.returned (.bool (ba x l))/\w'=w:=by
 have hi:=DO x v l w h hl;obtain⟨a,cap,rfl,_⟩:=h;have HM:=aa (show ba x l=decide ((0:Int)<=ah l x)from by
  rw[Bool.eq_iff_iff,ii,Lc];constructor
  ·intro hx
   rcases Int.lt_or_le (ah l x) 0 with q|q
   ·exfalso
    rcases List.getElem?_of_mem hx with⟨k,hk⟩;exact absurd q (fun q=>by
     have:=un l x hx;omega)
   ·exact q
  ·intro hq
   obtain⟨k,y,h1,h2,h3,_⟩:=iW (fun z=>z) l x (by simpa using Int.not_lt.2 hq);exact h3▸KN h2)
 generalize ba x l=q at*;go_enter func154,ntmps154;go_wp2_with fail;refine hi.mono ?_;rintro _ w' ⟨rfl,hw'⟩;have hw':=hw'.symm;subst hw';go_wp2_with fail;go_ret;exact⟨am (by rw[HM.o]),rfl⟩
structure jY(w:World)(v:Nat)(id:Ls)(Lu:List Ls):Prop where
 b:∃a c,w.heap[v]?=some (.cells #[.string id,.slice a Lu.length c] 102 (0,0))/\cH w (.slice a Lu.length c) Lu
 l:Lu.length<=1000000
theorem jY.below{w w':World}{v:Nat}{id:Ls}{Lu:List Ls}(h:jY w v id Lu)(hb:Lt w w'):jY w' v id Lu:=by
 obtain⟨⟨a,c,h1,h2⟩,h3⟩:=h;exact⟨⟨a,c,(hb.block _ (ag h1)).trans h1,h2.below hb⟩,h3⟩
section
variable {w:World} {v:Nat} {id:Ls} {Lu:List Ls}
theorem Cs(h:jY w v id Lu)(x:Ls):Calls prog 116 #[.pointer (some ⟨v,0,none⟩),.string x] w fun e w'=>e=.returned (.bool (ba x Lu))/\w'=w:=by
 obtain⟨⟨a,c,h1,h2⟩,h3⟩:=h;have hc:=uO x _ Lu w h2 h3;have cv:=ae h1;generalize ba x Lu=q at*;clear h1 h2;go_enter func116,ntmps116;go_wp2_with fail;refine hc.mono ?_;rintro _ w' ⟨rfl,hw'⟩;have hw':=hw'.symm;subst hw';go_wp2_with fail;go_ret;exact⟨rfl,rfl⟩
def jd(Lu:List Ls)(x:Ls):Bool:=decide (x=bE)||ba x Lu
theorem As(h:jY w v id Lu)(x:Ls):Calls prog 119 #[.pointer (some ⟨v,0,none⟩),.string x] w fun e w'=>e=.returned (.bool (jd Lu x))/\w'=w:=by
 have hc:=Cs h x;have HQ:=aa (show jd Lu x=(x.toList.isEmpty||ba x Lu)from by unfold jd;rw[kL]);generalize jd Lu x=q at*;generalize ba x Lu=m at*;clear h;cases he:x.toList.isEmpty
 ·go_enter func119,ntmps119
  go_wp2_with fail;refine hc.mono ?_;rintro _ w' ⟨rfl,hw'⟩;have hw':=hw'.symm;subst hw';go_wp2_with fail;go_ret;exact⟨am (by rw[HQ.o,he];rfl),rfl⟩
 ·go_enter func119,ntmps119
  go_wp2_with fail;go_ret;exact⟨am (by rw[HQ.o,he];rfl),rfl⟩
theorem ED(h:jY w v id Lu){g o:Nat}{f:ax}{u:Value}(hf:fc w g o f u):Calls prog 83 #[.pointer (some ⟨v,0,none⟩),.pointer (some ⟨g,o,none⟩)] w fun e w'=>e=.returned (.bool (!jd Lu f.LG))/\w'=w:=by
 have hc:=As h f.LG;have c:=hf.c1;generalize jd Lu f.LG=m at*;clear h hf;go_enter func83,ntmps83;go_wp2_with fail;refine hc.mono ?_;rintro _ w' ⟨rfl,hw'⟩;have hw':=hw'.symm;subst hw';go_wp2_with fail;go_ret;exact⟨rfl,rfl⟩
theorem Fq(h:jY w v id Lu){g o:Nat}{f:ax}{u:Value}(hf:fc w g o f u):Calls prog 84 #[.pointer (some ⟨v,0,none⟩),.pointer (some ⟨g,o,none⟩)] w fun e w'=>e=.returned (.bool (!jd Lu f.LH))/\w'=w:=by
 have hc:=As h f.LH;have c:=hf.c2;generalize jd Lu f.LH=m at*;clear h hf;go_enter func84,ntmps84;go_wp2_with fail;refine hc.mono ?_;rintro _ w' ⟨rfl,hw'⟩;have hw':=hw'.symm;subst hw';go_wp2_with fail;go_ret;exact⟨rfl,rfl⟩
theorem Ko(h:jY w v id Lu){g o:Nat}{f:ax}{u:Value}(hf:fc w g o f u):Calls prog 45 #[.pointer (some ⟨v,0,none⟩),.pointer (some ⟨g,o,none⟩)] w fun e w'=>e=.returned (.bool (jd Lu f.LG&&jd Lu f.LH))/\w'=w:=by
 have hc:=ED h hf;have hh:=Fq h hf;generalize jd Lu f.LG=qa at*;generalize jd Lu f.LH=qh at*;clear h hf;cases qa
 ·go_enter func45,ntmps45
  go_wp2_with fail;refine hc.mono ?_;rintro _ w' ⟨rfl,hw'⟩;have hw':=hw'.symm;subst hw';go_wp2_with fail;go_ret;exact⟨rfl,rfl⟩
 ·go_enter func45,ntmps45
  go_wp2_with fail;refine hc.mono ?_;rintro _ w' ⟨rfl,hw'⟩;have hw':=hw'.symm;subst hw';go_wp2_with fail;refine hh.mono ?_;rintro _ w' ⟨rfl,hw'⟩;have hw':=hw'.symm;subst hw';go_wp2_with fail;go_ret;exact⟨am (by simp),rfl⟩
theorem Gu{g o:Nat}{f:ax}{u:Value}(hf:fc w g o f u):Calls prog 149 #[.pointer (some ⟨g,o,none⟩)] w fun e w'=>e=.returned (.bool (decide (f.arg=ik)))/\w'=w:=by
 have c:=hf.c3;have HQ:=aa (show decide (f.arg=ik)=(f.arg.toList==[105,100])from by rw[<-bY,Lib.toList_data ik];rfl);generalize decide (f.arg=ik)=q at*;clear hf;go_enter func149,ntmps149;go_wp2_with fail;go_ret;exact⟨am (by rw[HQ.o]),rfl⟩
end
def kD(k:Nat)(c:Ls):Bool:=if k=1 then(c.toList==[73,110,116])else if k=2 then((c.toList==[83,116,114,105,110,103])||(c.toList==[73,68]))else if k=3\/k=4 then(c.toList==[66,111,111,108,101,97,110])else false
theorem DL(w:World)(k:Nat)(n:Int)(t c:Ls):Calls prog 187 #[.agg #[.int .i64 k,.int .i64 n,.string t],.string c] w fun e w'=>e=.returned (.bool (kD k c))/\Lt w w':=by
 have HQ:=aa (kD.eq_1 k c);generalize kD k c=q at*;have hk:k=1\/k=2\/k=3\/k=4\/(k≠1/\k≠2/\k≠3/\k≠4):=by omega
 rcases hk with rfl|rfl|rfl|rfl|⟨h1,h2,h3,h4⟩;all_goals
  have HQ2:=aa HQ.o;simp[*]at HQ2;clear HQ
 case inr.inl=>
  cases hs:(c.toList==[83,116,114,105,110,103])<;>rw[hs]at HQ2;all_goals
   go_enter func187,ntmps187;go_wp2_with fail;go_ret;exact⟨am (by rw[HQ2.o];simp),bA (KL _ _) _⟩
 all_goals
  go_enter func187,ntmps187;go_wp2_with fail;go_ret;exact⟨am (by rw[HQ2.o]),bA (KL _ _) _⟩
def iQ(id:Ls)(k:Nat)(n:Int)(t:Ls):Nat×Int×Ls:=if k=5 then(2,0,id)else(k,n,t)
theorem IY(w:World)(v:Nat)(id:Ls)(Lu:List Ls)(h:jY w v id Lu)(k:Nat)(n:Int)(t:Ls):Calls prog 118 #[.pointer (some ⟨v,0,none⟩),.agg #[.int .i64 k,.int .i64 n,.string t]] w fun e w'=>e=.returned (.agg #[.int .i64 (iQ id k n t).1,.int .i64 (iQ id k n t).2.1,.string (iQ id k n t).2.2])/\Lt w w':=by
 obtain⟨⟨a,c,h1,_⟩,_⟩:=h;have cv:=ae h1;have hl:=ag h1;have hl1:v<w.heap.size+1:=by omega
 clear h1;by_cases hk:k=5
 ·subst hk
  go_enter func118,ntmps118;go_wp2_with fail;refine bodyPost_ret (v:=.agg #[.int .i64 2,.int .i64 0,.string id]) (by simp[results,results118,go_sem]) rfl ⟨rfl,?_⟩;repeat' with_reducible first|exact KL _ _|refine bA ?_ _|refine bS ?_ _ (by show _<=_;omega) _
 ·have hk':((k:Int)==5)=false:=by simp;omega
  have HM:=aa (show iQ id k n t=(k,n,t)from by unfold iQ;rw[K8 hk]);rw[HM.o];go_enter func118,ntmps118;go_wp2_with fail;refine bodyPost_ret (v:=.agg #[.int .i64 k,.int .i64 n,.string t]) (by simp[results,results118,go_sem]) rfl ⟨rfl,?_⟩;repeat' with_reducible first|exact KL _ _|refine bA ?_ _|refine bS ?_ _ (by show _<=_;omega) _
structure eW where
 g:Nat
 o:Nat
 f:ax
 u:Value
 t:Ls
 c:FV
def o8(c:eW):List Value:=[.pointer (some ⟨c.g,c.o,none⟩),.string c.t,.int .i64 c.c.sh,.int .i64 c.c.n,.string c.c.s,.slice c.c.la c.c.ln c.c.lc]
def j5(w:World)(v:Value)(l:List eW):Prop:=∃a cap,v=.slice a l.length cap/\l.length<=cap/\(l=[]\/∃g off,a=some ⟨g,off,none⟩/\∀j c,l[j]?=some c->(∀i,i<6->w.cell? ⟨g,off+j*6+i,none⟩=(o8 c)[i]?)/\fc w c.g c.o c.f c.u)
theorem j5.below{w w':World}{v:Value}{l:List eW}(h:j5 w v l)(hb:Lt w w'):j5 w' v l:=by
 obtain⟨a,cap,h1,h2,h3⟩:=h;refine⟨a,cap,h1,h2,h3.imp (fun e=>e) ?_⟩;rintro⟨g,off,ha,hh⟩;refine⟨g,off,ha,fun j c hj=>⟨fun i hi=>?_,((hh j c hj).2).below hb⟩⟩;have q:=(hh j c hj).1 i hi;rw[KM (show i<(o8 c).length from hi)]at q⊢;exact ao hb q
theorem j5.at{w:World}{a:Option Addr}{cap j:Nat}{l:List eW}{c:eW}(h:j5 w (.slice a l.length cap) l)(hj:l[j]?=some c):∃g off,a=some ⟨g,off,none⟩/\w.cell? ⟨g,off+j*6,none⟩=some (.pointer (some ⟨c.g,c.o,none⟩))/\w.cell? ⟨g,off+j*6+1,none⟩=some (.string c.t)/\w.cell? ⟨g,off+j*6+2,none⟩=some (.int .i64 c.c.sh)/\w.cell? ⟨g,off+j*6+3,none⟩=some (.int .i64 c.c.n)/\w.cell? ⟨g,off+j*6+4,none⟩=some (.string c.c.s)/\w.cell? ⟨g,off+j*6+5,none⟩=some (.slice c.c.la c.c.ln c.c.lc)/\fc w c.g c.o c.f c.u:=by
 obtain⟨a',LM,e,_,h3⟩:=h;cases e;rcases h3 with e|⟨g,off,ha,hh⟩
 ·rw[e]at hj;simp at hj
 ·obtain⟨q,hf⟩:=hh j c hj
  exact⟨g,off,ha,q 0 (by omega),q 1 (by omega),q 2 (by omega),q 3 (by omega),q 4 (by omega),q 5 (by omega),hf⟩
def e8(c:eW):Ls:=c.f.name
theorem El(w:World)(Z:Nat)(x:Ls)(c:eW)(hf:fc w c.g c.o c.f c.u)(hz:w.cell? ⟨Z,0,none⟩=some (.string x)):
 Calls prog 183 #[.agg #[.pointer (some ⟨c.g,c.o,none⟩),.string c.t,.int .i64 c.c.sh,.int .i64 c.c.n,.string c.c.s,.slice c.c.la c.c.ln c.c.lc],.pointer (some ⟨Z,0,none⟩)] w fun e w'=>e=.returned (.bool (c.f.name.toList==x.toList))/\Lt w w':=by
 have hzl:Z<w.heap.size:=KQ w _ hz;have hgl:c.g<w.heap.size:=KQ w _ hf.c0;have f0:=hf.c0;clear hf;go_enter func183,ntmps183;go_wp2_with fail;go_quiet (fail);go_wp2_with fail;go_ret;exact⟨rfl,below_drewN (bA (KL _ _) _) _⟩
theorem DS(w:World)(v:Value)(Z:Nat)(x:Ls)(l:List eW)(h:j5 w v l)(hl:l.length<=1000000)(hz:w.cell? ⟨Z,0,none⟩=some (.string x)):
 Calls prog 182 #[v,.func (Fn.func 183) #[] #[.pointer (some ⟨Z,0,none⟩)]] w fun e w'=>e=.returned (.int .i64 (ah (l.map e8) x))/\Lt w w':=by
 have H0:=aa h;have HZ:=aa hz;obtain⟨a,cap,rfl,_⟩:=h;have hzl:Z<w.heap.size:=KQ w _ hz;generalize hq:ah (l.map e8) x=q;have HQ:=aa hq;clear hq hz;go_enter func182,ntmps182;go_wp2_with fail;go_loopg [5,8] l.length (fun m v5 v8 wr=>∃k:Nat,v8=.int .i64 k/\k<=l.length/\l.length-k<=m/\Lt w wr/\∀y∈(l.map e8).take k,y≠x)
 case atStart=>exact⟨0,rfl,KU _,KK _,KL _ _,by simp⟩
 case round=>
  obtain⟨k,rfl,hk,hm,hb,hc⟩:=hrel;have HC:=aa hc;have HB:=aa hb;clear hc;by_cases hlt:k<l.length
  ·obtain⟨c,hx⟩:∃c,l[k]?=some c:=⟨_,KM hlt⟩
   obtain⟨g,off,ha,c0,c1,c2,c3,c4,c5,hf⟩:=(H0.o.below hb).at hx;subst ha;have hgl:g<wr.heap.size:=KQ wr _ c0;have hcl:=El wr Z x c hf (ao hb HZ.o);have HX:=aa (show(l.map e8)[k]?=some (e8 c)from by rw[La,hx];rfl);clear hf hx hb;cases hy:(c.f.name.toList==x.toList)
   ·rw[hy]at hcl
    have HY:=aa (show e8 c≠x from fun e=>by
     rw[bY]at hy;simp only[decide_eq_false_iff_not]at hy;exact hy e)
    clear hy;go_wp2_with fail;refine hcl.mono ?_;rintro _ w1 ⟨rfl,hb1⟩;have hbb:=bT HB.o hb1;clear hcl hb1;go_wp2_with fail;go_roundg (l.length-(k+1))
    case measure=>omega
    case rel=>exact⟨k+1,by go_num,by omega,KK _,hbb,by
     rw[Ld,HX.o];intro z hz;rcases List.mem_append.1 hz with hz|hz
     ·exact HC.o z hz
     ·simp at hz;subst hz;exact HY.o⟩
   ·rw[hy]at hcl
    have HY:=aa (show e8 c=x from by rw[bY]at hy;exact of_decide_eq_true hy);clear hy;go_wp2_with fail;refine hcl.mono ?_;rintro _ w1 ⟨rfl,hb1⟩;have hbb:=bT HB.o hb1;clear hcl hb1;go_wp2_with fail;go_ret;exact⟨dx (by rw[<-HQ.o];unfold ah;rw[lj (l.map e8) x 0 k HC.o (by rw[HX.o,HY.o])];simp),hbb⟩
  ·go_wp2_with fail
   go_ret;exact⟨dx (by
    rw[<-HQ.o];have:=HC.o;rw[KW (by simp;omega)]at this;unfold ah;rw[lG (l.map e8) x 0 this]),hb⟩
theorem Ay(w:World)(g o:Nat)(v:Value)(x:Ls)(l:List eW)(hv:w.cell? ⟨g,o+2,none⟩=some v)(h:j5 w v l)(hl:l.length<=1000000):
 Calls prog 150 #[.pointer (some ⟨g,o,none⟩),.string x] w fun e w'=>e=.returned (.int .i64 (ah (l.map e8) x))/\Lt w w':=by
 have H0:=aa h;obtain⟨a,cap,rfl,_⟩:=h;have hgl:g<w.heap.size:=KQ w _ hv;have HC:=aa (fun W Z (hW:Lt w W) (hz:W.cell? ⟨Z,0,none⟩=some (.string x))=>DS W (.slice a l.length cap) Z x l (H0.o.below hW) hl hz);generalize ah (l.map e8) x=q at*;go_enter func150,ntmps150;go_wp2_with fail;refine(HC.o _ _ (bA (KL _ _) _) (by simp)).mono ?_;rintro _ w1 ⟨rfl,b1⟩;go_wp2_with fail;go_ret;exact⟨rfl,bT (bA (KL _ _) _) b1⟩
def j7(l:List eW)(x:Ls):FV:=if ah (l.map e8) x<0 then jE else match l[(ah (l.map e8) x).toNat]? with
 |some c=>c.c
 |none=>jE
theorem Ii(w:World)(g o:Nat)(v:Value)(x:Ls)(l:List eW)(hv:w.cell? ⟨g,o+2,none⟩=some v)(h:j5 w v l)(hl:l.length<=1000000):
 Calls prog 117 #[.pointer (some ⟨g,o,none⟩),.string x] w fun e w'=>e=.returned (bw (j7 l x))/\Lt w w':=by
 have H0:=aa h;have HC:=aa (fun W (hW:Lt w W)=>Ay W g o v x l (ao hW hv) (h.below hW) hl);have HV:=aa hv;obtain⟨a,cap,rfl,_⟩:=h;have hgl:g<w.heap.size:=KQ w _ hv;have HQ:=aa (j7.eq_1 l x);generalize j7 l x=q at*;clear hv;by_cases hneg:ah (l.map e8) x<0
 ·have HF:=aa (show q=jE from by rw[HQ.o,K9 hneg])
  generalize ah (l.map e8) x=fi at*;go_enter func117,ntmps117;go_wp2_with fail;refine(HC.o _ (bA (KL _ _) _)).mono ?_;rintro _ w1 ⟨rfl,b1⟩;have hR:=(b1.block _ (by simp)).trans (mX w (.cells #[.int .i64 0,.int .i64 0,.string ⟨#[]⟩,.slice none 0 0] 171));have c:=ae hR;have f:=ar hR;have hB:=aa (bT (bA (KL w.heap.size w) _) b1);clear hR b1;go_wp2_with fail;refine bodyPost_ret (v:=.agg #[.int .i64 0,.int .i64 0,.string ⟨#[]⟩,.slice none 0 0]) (by simp[results,results117,go_sem,c]) rfl ⟨by rw[HF.o];rfl,?_⟩;repeat' with_reducible first|exact hB.o|refine bA ?_ _|refine bS ?_ _ (KK _) _
 ·obtain⟨k,c,hk,hc,_,hkl⟩:=iW e8 l x hneg
  have HF:=aa (show q=c.c from by rw[HQ.o,K8 hneg,hk,Lk,hc]);rw[hk]at HC;have HCC:=aa hc;clear hneg hk HQ hc;go_enter func117,ntmps117;go_wp2_with fail;refine(HC.o _ (bA (KL _ _) _)).mono ?_;rintro _ w1 ⟨rfl,b1⟩;have hR:=(b1.block _ (by simp)).trans (mX w (.cells #[.int .i64 0,.int .i64 0,.string ⟨#[]⟩,.slice none 0 0] 171));have cr:=ae hR;have fr:=ar hR;have hlR:=ag hR;have hB0:=bT (bA (KL w.heap.size w) (.cells #[.int .i64 0,.int .i64 0,.string ⟨#[]⟩,.slice none 0 0] 171)) b1;have hv:=ao hB0 HV.o;have hgl1:g<w1.heap.size:=KQ w1 _ hv;obtain⟨gC,off,ha,c0,c1,c2,c3,c4,c5,_⟩:=(H0.o.below hB0).at HCC.o;subst ha;have hgC:gC<w1.heap.size:=KQ w1 _ c0;have hB:=aa hB0;clear hR b1 hB0 HC;go_wp2_with fail;refine bodyPost_ret (v:=.agg #[.int .i64 c.c.sh,.int .i64 c.c.n,.string c.c.s,.slice c.c.la c.c.ln c.c.lc]) (by simp[results,results117,go_sem,cr]) rfl ⟨by rw[HF.o];rfl,?_⟩;repeat' with_reducible first|exact hB.o|refine bA ?_ _|refine bS ?_ _ (KK _) _
def lh(w:World)(v:Value)(us:List Value):Prop:=∃a cap,v=.slice a us.length cap/\(us=[]\/∃g off,a=some ⟨g,off,none⟩/\∀j u,us[j]?=some u->w.cell? ⟨g,off+j,none⟩=some u)
theorem lh.below{w w':World}{v:Value}{us:List Value}(h:lh w v us)(hb:Lt w w'):lh w' v us:=by
 obtain⟨a,cap,h1,h3⟩:=h;refine⟨a,cap,h1,h3.imp (fun e=>e) ?_⟩;rintro⟨g,off,ha,hh⟩;exact⟨g,off,ha,fun j u hj=>ao hb (hh j u hj)⟩
theorem lh.at{w:World}{a:Option Addr}{cap j:Nat}{us:List Value}{u:Value}(h:lh w (.slice a us.length cap) us)(hj:us[j]?=some u):∃g off,a=some ⟨g,off,none⟩/\w.cell? ⟨g,off+j,none⟩=some u:=by
 obtain⟨a',LM,e,h3⟩:=h;cases e;rcases h3 with e|⟨g,off,ha,hh⟩
 ·rw[e]at hj;simp at hj
 ·exact⟨g,off,ha,hh j u hj⟩
theorem Fl(w:World)(v:Value)(Z Y:Nat)(us:List Value)(qs:List Bool)(h:lh w v us)(hq:qs.length=us.length)(hl:us.length<=1000000)(MF:∀u∈us,∃q,u=.pointer q)
 (hc:∀W,Lt w W->∀(j:Nat) (u:Value) (b:Bool),us[j]?=some u->qs[j]?=some b->Calls prog 113 #[u,.pointer (some ⟨Z,0,none⟩),.pointer (some ⟨Y,0,none⟩)] W fun e w'=>e=.returned (.bool b)/\Lt W w'):
 Calls prog 153 #[v,.func (Fn.func 113) #[] #[.pointer (some ⟨Z,0,none⟩),.pointer (some ⟨Y,0,none⟩)]] w fun e w'=>(∃r:Int,e=.returned (.int .i64 r)/\decide (0<=r)=qs.any (fun b=>b))/\Lt w w':=by
 have H0:=aa h;have HC:=aa hc;have HQ:=aa hq;have HP:=aa MF;obtain⟨a,cap,rfl,_⟩:=h;clear hc hq MF;go_enter func153,ntmps153;go_wp2_with fail;go_loopg [5,8] us.length (fun m v5 v8 wr=>∃k:Nat,v8=.int .i64 k/\k<=us.length/\us.length-k<=m/\Lt w wr/\qs.any (fun b=>b)=(qs.drop k).any (fun b=>b))
 case atStart=>exact⟨0,rfl,KU _,KK _,KL _ _,rfl⟩
 case round=>
  obtain⟨k,rfl,hk,hm,hb,hc⟩:=hrel;have HD:=aa hc;have HB:=aa hb;clear hc;by_cases hlt:k<us.length
  ·obtain⟨u,hu⟩:∃u,us[k]?=some u:=⟨_,KM hlt⟩
   obtain⟨b,hbq⟩:∃b,qs[k]?=some b:=⟨_,KM (by rw[HQ.o];exact hlt)⟩;obtain⟨g,off,ha,c0⟩:=(H0.o.below hb).at hu;subst ha;have hcl:=HC.o wr hb k u b hu hbq;obtain⟨qp,hqp⟩:=HP.o u (KN hu);subst hqp;have HDD:=aa (show qs.any (fun b=>b)=(b||(qs.drop (k+1)).any (fun b=>b))from by
    rw[HD.o];obtain⟨hx,rfl⟩:=KO.1 hbq;rw[Lq hx];rfl)
   clear hu hbq hb;cases b
   ·go_wp2_with fail
    refine hcl.mono ?_;rintro _ w1 ⟨rfl,hb1⟩;have hbb:=bT HB.o hb1;clear hcl hb1;go_wp2_with fail;go_roundg (us.length-(k+1))
    case measure=>omega
    case rel=>exact⟨k+1,by go_num,by omega,KK _,hbb,by rw[HDD.o];rfl⟩
   ·go_wp2_with fail
    refine hcl.mono ?_;rintro _ w1 ⟨rfl,hb1⟩;have hbb:=bT HB.o hb1;clear hcl hb1;go_wp2_with fail;go_ret;exact⟨⟨_,rfl,by rw[HDD.o];simp⟩,hbb⟩
  ·go_wp2_with fail
   go_ret;exact⟨⟨_,rfl,by rw[HD.o,Lp (by rw[HQ.o];omega)];rfl⟩,hb⟩
theorem DD(w:World)(v:Value)(Z Y:Nat)(us:List Value)(qs:List Bool)(h:lh w v us)(hq:qs.length=us.length)(hl:us.length<=1000000)(MF:∀u∈us,∃q,u=.pointer q)
 (hc:∀W,Lt w W->∀(j:Nat) (u:Value) (b:Bool),us[j]?=some u->qs[j]?=some b->Calls prog 113 #[u,.pointer (some ⟨Z,0,none⟩),.pointer (some ⟨Y,0,none⟩)] W fun e w'=>e=.returned (.bool b)/\Lt W w'):
 Calls prog 114 #[v,.func (Fn.func 113) #[] #[.pointer (some ⟨Z,0,none⟩),.pointer (some ⟨Y,0,none⟩)]] w fun e w'=>e=.returned (.bool (qs.any (fun b=>b)))/\Lt w w':=by
 have hi:=Fl w v Z Y us qs h hq hl MF hc;obtain⟨a,cap,rfl,_⟩:=h;clear hc hq MF;go_enter func114,ntmps114;go_wp2_with fail;refine hi.mono ?_;rintro _ w1 ⟨⟨r,rfl,hr⟩,b1⟩;have HR:=aa hr;clear hr hi;go_wp2_with fail;go_ret;exact⟨am HR.o,b1⟩
theorem Fd(w:World)(v:Value)(Z:Nat)(us:List Value)(qs:List Bool)(h:lh w v us)(hq:qs.length=us.length)(hl:us.length<=1000000)(MF:∀u∈us,∃q,u=.pointer q)
 (hc:∀W,Lt w W->∀(j:Nat) (u:Value) (b:Bool),us[j]?=some u->qs[j]?=some b->Calls prog 115 #[u,.pointer (some ⟨Z,0,none⟩)] W fun e w'=>e=.returned (.bool b)/\Lt W w'):
 Calls prog 153 #[v,.func (Fn.func 115) #[] #[.pointer (some ⟨Z,0,none⟩)]] w fun e w'=>(∃r:Int,e=.returned (.int .i64 r)/\decide (0<=r)=qs.any (fun b=>b))/\Lt w w':=by
 have H0:=aa h;have HC:=aa hc;have HQ:=aa hq;have HP:=aa MF;obtain⟨a,cap,rfl,_⟩:=h;clear hc hq MF;go_enter func153,ntmps153;go_wp2_with fail;go_loopg [5,8] us.length (fun m v5 v8 wr=>∃k:Nat,v8=.int .i64 k/\k<=us.length/\us.length-k<=m/\Lt w wr/\qs.any (fun b=>b)=(qs.drop k).any (fun b=>b))
 case atStart=>exact⟨0,rfl,KU _,KK _,KL _ _,rfl⟩
 case round=>
  obtain⟨k,rfl,hk,hm,hb,hc⟩:=hrel;have HD:=aa hc;have HB:=aa hb;clear hc;by_cases hlt:k<us.length
  ·obtain⟨u,hu⟩:∃u,us[k]?=some u:=⟨_,KM hlt⟩
   obtain⟨b,hbq⟩:∃b,qs[k]?=some b:=⟨_,KM (by rw[HQ.o];exact hlt)⟩;obtain⟨g,off,ha,c0⟩:=(H0.o.below hb).at hu;subst ha;have hcl:=HC.o wr hb k u b hu hbq;obtain⟨qp,hqp⟩:=HP.o u (KN hu);subst hqp;have HDD:=aa (show qs.any (fun b=>b)=(b||(qs.drop (k+1)).any (fun b=>b))from by
    rw[HD.o];obtain⟨hx,rfl⟩:=KO.1 hbq;rw[Lq hx];rfl)
   clear hu hbq hb;cases b
   ·go_wp2_with fail
    refine hcl.mono ?_;rintro _ w1 ⟨rfl,hb1⟩;have hbb:=bT HB.o hb1;clear hcl hb1;go_wp2_with fail;go_roundg (us.length-(k+1))
    case measure=>omega
    case rel=>exact⟨k+1,by go_num,by omega,KK _,hbb,by rw[HDD.o];rfl⟩
   ·go_wp2_with fail
    refine hcl.mono ?_;rintro _ w1 ⟨rfl,hb1⟩;have hbb:=bT HB.o hb1;clear hcl hb1;go_wp2_with fail;go_ret;exact⟨⟨_,rfl,by rw[HDD.o];simp⟩,hbb⟩
  ·go_wp2_with fail
   go_ret;exact⟨⟨_,rfl,by rw[HD.o,Lp (by rw[HQ.o];omega)];rfl⟩,hb⟩
theorem Ix(w:World)(v:Value)(Z:Nat)(us:List Value)(qs:List Bool)(h:lh w v us)(hq:qs.length=us.length)(hl:us.length<=1000000)(MF:∀u∈us,∃q,u=.pointer q)
 (hc:∀W,Lt w W->∀(j:Nat) (u:Value) (b:Bool),us[j]?=some u->qs[j]?=some b->Calls prog 115 #[u,.pointer (some ⟨Z,0,none⟩)] W fun e w'=>e=.returned (.bool b)/\Lt W w'):
 Calls prog 114 #[v,.func (Fn.func 115) #[] #[.pointer (some ⟨Z,0,none⟩)]] w fun e w'=>e=.returned (.bool (qs.any (fun b=>b)))/\Lt w w':=by
 have hi:=Fd w v Z us qs h hq hl MF hc;obtain⟨a,cap,rfl,_⟩:=h;clear hc hq MF;go_enter func114,ntmps114;go_wp2_with fail;refine hi.mono ?_;rintro _ w1 ⟨⟨r,rfl,hr⟩,b1⟩;have HR:=aa hr;clear hr hi;go_wp2_with fail;go_ret;exact⟨am HR.o,b1⟩
mutual
def pv:RV->RV
 | .mk sh n s l=>.mk (cW (sh,n,s)).1 (cW (sh,n,s)).2.1 (cW (sh,n,s)).2.2 (pM l)
def pM:List RV->List RV
 |[]=>[]
 |t::l=>pv t::pM l
end
theorem vK:∀l:List RV,pM l=l.map pv
 |[]=>by rw[pM];rfl
 |t::l=>by rw[pM,vK l];rfl
theorem sZ(s:St)(h:dN s=true):iH s=tl s/\jk s=cW ((br s).sh,(br s).n,(br s).s)/\af s 5=false/\af s 11=false/\af s 12=false:=by
 have hk:(hd s).k=2\/(hd s).k=3\/((hd s).k=1/\((hd s).s=jr\/(hd s).s=jw\/(hd s).s=mf)):=by
  unfold dN af aq at h;simp only[Bool.or_eq_true,Li,beq_iff_eq,Lc]at h;rcases h with(((h|h)|h)|h)|h
  ·exact Or.inl h
  ·exact Or.inr (Or.inl h)
  ·exact Or.inr (Or.inr ⟨h.1,Or.inl h.2⟩)
  ·exact Or.inr (Or.inr ⟨h.1,Or.inr (Or.inl h.2)⟩)
  ·exact Or.inr (Or.inr ⟨h.1,Or.inr (Or.inr h.2)⟩)
 have hn:∀K,K≠1->K≠2->K≠3->af s K=false:=fun K h1 h2 h3=>by
  unfold af;rw[beq_eq_false_iff_ne];rcases hk with h|h|⟨h,_⟩<;>omega
 have n1:jw≠jr:=by decide
 have n2:mf≠jr:=by decide
 have n3:mf≠jw:=by decide
 refine⟨?_,?_,hn 5 (by decide) (by decide) (by decide),hn 11 (by decide) (by decide) (by decide),hn 12 (by decide) (by decide) (by decide)⟩
 ·unfold iH lm
  rcases hk with h|h|⟨h,e⟩
  ·simp[h]
  ·simp[h]
  ·rcases e with e|e|e<;>simp[h,e,n1,n2,n3]
 ·rcases hk with h|h|⟨h,e⟩
  ·simp[jk,br,rk,h,cW]
  ·simp[jk,br,rk,rs,h,cW]
  ·have hl:br s=if (hd s).s=jr then⟨3,1,⟨#[]⟩,none,0,0⟩else if (hd s).s=jw then⟨3,0,⟨#[]⟩,none,0,0⟩else jE:=by
    unfold br rk rs;simp only[h,bV];by_cases e1:(hd s).s=jr
    ·rw[K9 e1];simp[show(hd s).s=aE [116,114,117,101]from e1]
    ·rw[K8 e1]
     by_cases e2:(hd s).s=jw
     ·rw[K9 e2];simp[show(hd s).s=aE [102,97,108,115,101]from e2]<;>decide
     ·rw[K8 e2];simp[show¬(hd s).s=aE [116,114,117,101]from e1,show¬(hd s).s=aE [102,97,108,115,101]from e2]
   rw[hl];unfold jk qP;rcases e with e|e|e<;>simp[h,e,n1,n2,n3,cW,jE]
theorem IR(s:St)(h:dN s=false):iH s=none:=by
 unfold dN af aq at h;simp only[Bool.or_eq_false_iff,Bool.and_eq_false_iff,beq_eq_false_iff_ne,decide_eq_false_iff_not]at h;obtain⟨⟨⟨⟨h2,h3⟩,h4⟩,h5⟩,h6⟩:=h;unfold iH lm;rw[K8 h2,K8 h3];split
 ·rename_i e
  rw[K8 (h4.resolve_left (fun x=>x e)),K8 (h5.resolve_left (fun x=>x e)),K8 (h6.resolve_left (fun x=>x e))]
 ·rfl
theorem Hc(f d:Nat):(bJ (f+2) d (some [])).2=none:=by
 rw[bJ,K8 (by simp),K8 (by rw[nN 13 (by decide)];decide)];have:(bz (f+1) (d+1) (some [])).2=none:=by
  rw[bz,K8 (by decide),K8 (by rw[nN 5 (by decide)];decide),K8 (by rw[nN 11 (by decide)];decide),nN 12 (by decide)];have e:(if 10<=d+1 then none else ak (some []) false)=none:=by split<;>rfl
  rw[e,mT]
 rw[this,mT]
theorem J2(s:St):eu s=true->s=none\/s=some []:=by
 unfold eu
 match s with
 |none=>exact fun _=>Or.inl rfl
 |some []=>exact fun _=>Or.inr rfl
 |some (t::l)=>intro h;simp at h
abbrev NB(w w':World):Nat->Prop:=fun g=>w.heap.size<=g/\g<w'.heap.size
def oy(w:World)(b G:Nat)(k:Nat)(q:RV×St)(e:Ending)(w':World):Prop:=∃v:FV,e=.returned (bw v)/\PK w w' b G q.2/\(q.2≠none->bI w' (NB w w') k v (pv q.1))
theorem Dp(f d D:Nat)(s:St)(w:World)(b G:Nat)(h:PS w b G s)
 (hL:∀W,PK w W b G (tl s)->af s 12=true->Calls prog 206 #[.pointer (some ⟨b,0,none⟩),.int .i64 D] W (oy W b G (f+1) (.mk 5 0 ⟨#[]⟩ (bJ f d (if 10<=d then none else tl s)).1,(bJ f d (if 10<=d then none else tl s)).2))):
 Calls prog 184 #[.pointer (some ⟨b,0,none⟩),.int .i64 D] w (oy w b G (f+1) (bz (f+1) d s)):=by
 have K0:=aa h.pk;have hlt:=h.lt;have HL:=aa hL;have HT:=aa (fun(K:Nat) W (hW:PK w W b G s)=>mM W b G s K hW.ps);clear h hL;unfold oy;cases e5:af s 5
 rotate_left
 ·have HE:=aa (show bz (f+1) d s=(.mk 6 0 ⟨#[]⟩ [],tl s)from by
   rw[bz,K8 (fun e=>by rw[(sZ s e).2.2.1]at e5;cases e5),K9 e5])
  have H5:=aa (HT.o 5);rw[e5]at H5;generalize bz (f+1) d s=q at*;clear e5 HT HL;go_enter func184,ntmps184;go_wp2_with fail;refine(H5.o _ (K0.o.al _)).mono ?_;rintro _ w1 ⟨rfl,h1,k1⟩;have K1:=aa (show PK w w1 b G (tl s)from(K0.o.al _).call h1 k1);have hz:=k1.at (KS w _) (by omega);have c:=ae hz;have f:=ar hz;have hl:=ag hz;clear h1 k1 hz;go_wp2_with fail;rw[HE.o];refine bodyPost_ret (v:=bw ⟨8,0,⟨#[]⟩,none,0,0⟩) (by simp[results,results184,go_sem,bw, *]) rfl ⟨⟨8,0,⟨#[]⟩,none,0,0⟩,rfl,?_,fun _=>?_⟩
  ·show PK _ _ _ _ (tl s)
   repeat' with_reducible first|exact K1.o|refine PK.al ?_ _|refine PK.st ?_ _ (KK _) _
  ·exact bI.flat _ ⟨8,0,⟨#[]⟩,none,0,0⟩ rfl
 have H5:=aa (HT.o 5);rw[e5]at H5;cases e11:af s 11
 rotate_left
 ·have HE:=aa (show bz (f+1) d s=(.mk 4 0 (tx (tl s)) [],jU (tl s))from by
   rw[bz,K8 (fun e=>by rw[(sZ s e).2.2.2.1]at e11;cases e11),K8 (by rw[e5];decide),K9 e11])
  have H11:=aa (HT.o 11);rw[e11]at H11;have HN:=aa (fun W (hW:PK w W b G (tl s))=>iG W b G (tl s) 3 hW.ps);rw[show(ce (tl s) 3).s=tx (tl s)from by unfold ce tx;split<;>rfl]at HN;generalize (ce (tl s) 3).k=nk at*;generalize (ce (tl s) 3).n=nn at*;generalize bz (f+1) d s=q at*;generalize tx (tl s)=y at*;have rf:=vW nk nn y;clear e5 e11 HT HL;go_enter func184,ntmps184;go_wp2_with fail;refine(H5.o _ (K0.o.al _)).mono ?_;rintro _ w1 ⟨rfl,h1,k1⟩;have K1:=aa ((K0.o.al _).call h1 k1);have HZ1:=aa (k1.at (KS w _) (by omega));clear h1 k1;go_wp2_with fail;refine(H11.o _ K1.o).mono ?_;rintro _ w2 ⟨rfl,h2,k2⟩;have K2:=aa (K1.o.call h2 k2);have HZ2:=aa (k2.at HZ1.o (by omega));clear h2 k2 HZ1;go_wp2_with fail;refine(HN.o _ K2.o).mono ?_;rintro _ w3 ⟨rfl,h3,k3⟩;have K3:=aa (show PK w w3 b G (jU (tl s))from K2.o.call h3 k3);have hz:=k3.at HZ2.o (by omega);have c:=ae hz;have f:=ar hz;have hl:=ag hz;clear h3 k3 hz;go_wp2_with fail;rw[HE.o];refine bodyPost_ret (v:=bw ⟨6,0,y,none,0,0⟩) (by simp[results,results184,go_sem,bw, *]) rfl ⟨⟨6,0,y,none,0,0⟩,rfl,?_,fun _=>?_⟩
  ·show PK _ _ _ _ (jU (tl s))
   repeat' with_reducible first|exact K3.o|refine PK.al ?_ _|refine PK.st ?_ _ (KK _) _
  ·exact bI.flat _ ⟨6,0,y,none,0,0⟩ rfl
 have H11:=aa (HT.o 11);rw[e11]at H11;cases e12:af s 12
 rotate_left
 ·have HE:=aa (show bz (f+1) d s=(.mk 5 0 ⟨#[]⟩ (bJ f d (if 10<=d then none else tl s)).1,(bJ f d (if 10<=d then none else tl s)).2)from by
   rw[bz,K8 (fun e=>by rw[(sZ s e).2.2.2.2]at e12;cases e12),K8 (by rw[e5];decide),K8 (by rw[e11];decide),e12];rfl)
  have H12:=aa (HT.o 12);rw[e12]at H12;have HL2:=aa (fun W (hW:PK w W b G (tl s))=>HL.o W hW e12);rw[<-HE.o]at HL2;generalize bz (f+1) d s=q at*;clear e5 e11 e12 HT HL HE;go_enter func184,ntmps184;go_wp2_with fail;refine(H5.o _ (K0.o.al _)).mono ?_;rintro _ w1 ⟨rfl,h1,k1⟩;have K1:=aa ((K0.o.al _).call h1 k1);have HZ1:=aa (k1.at (KS w _) (by omega));clear h1 k1;go_wp2_with fail;refine(H11.o _ K1.o).mono ?_;rintro _ w2 ⟨rfl,h2,k2⟩;have K2:=aa (K1.o.call h2 k2);have HZ2:=aa (k2.at HZ1.o (by omega));clear h2 k2 HZ1;go_wp2_with fail;refine(H12.o _ K2.o).mono ?_;rintro _ w3 ⟨rfl,h3,k3⟩;have K3:=aa (K2.o.call h3 k3);have HZ3:=aa (k3.at HZ2.o (by omega));clear h3 k3 HZ2;go_wp2_with fail;refine(HL2.o _ K3.o).mono ?_;rintro _ w4 ⟨v,rfl,k4,hv⟩;have hz:=k4.kp.at HZ3.o (by omega);have c:=ae hz;have fz:=ar hz;have hl:=ag hz;have K4:=aa (K3.o.tr k4);have hl3:=ag HZ3.o;have HV:=aa hv;clear k4 hz hv;unfold bw;go_wp2_with fail;refine bodyPost_ret (v:=bw v) (by simp[results,results184,go_sem,bw, *]) rfl ⟨v,rfl,?_,fun e=>?_⟩
  ·repeat' with_reducible first|exact K4.o|refine PK.al ?_ _|refine PK.st ?_ _ (KK _) _
  ·refine(HV.o e).frame (fun g hg o=>World.cell?_of_block (a:=⟨g,o,none⟩) (fD _ _ g (by have:=hg.1;omega) _ _ _ _)) (fun g hg=>⟨by have:=hg.1;omega,by have:=hg.2;simp[World.setCell];omega⟩)
 have H12:=aa (HT.o 12);rw[e12]at H12;have HV:=aa (fun W (hW:PK w W b G s)=>Cz W b G s hW.ps);have HE:=aa (show(dN s=true/\bz (f+1) d s=(wY (br s),tl s))\/(dN s=false/\(bz (f+1) d s).2=none)from by
  cases e:dN s
  ·right
   refine⟨rfl,?_⟩;rw[bz,K8 (by rw[e];decide),K8 (by rw[e5];decide),K8 (by rw[e11];decide),e12];have e':(if 10<=d then none else ak s false)=none:=by split<;>rfl
   rw[e',mT]
  ·left;exact⟨rfl,by rw[bz,K9 e]⟩)
 have HQ:=aa (show iH s=(bz (f+1) d s).2/\((bz (f+1) d s).2≠none->pv (bz (f+1) d s).1=.mk (jk s).1 (jk s).2.1 (jk s).2.2 [])from by
  rcases HE.o with⟨e,e'⟩|⟨e,e'⟩
  ·obtain⟨h1,h2,_⟩:=sZ s e
   rw[e'];refine⟨h1,fun _=>?_⟩;show pv (.mk _ _ _ [])=_;rw[pv,pM,h2]
  ·rw[e',IR s e];exact⟨rfl,fun h=>absurd rfl h⟩)
 rw[HQ.o.1]at HV;generalize bz (f+1) d s=q at*;generalize (jk s).1=x1 at*;generalize (jk s).2.1=x2 at*;generalize (jk s).2.2=x3 at*;clear e5 e11 e12 HT HL HE;go_enter func184,ntmps184;go_wp2_with fail;refine(H5.o _ (K0.o.al _)).mono ?_;rintro _ w1 ⟨rfl,h1,k1⟩;have K1:=aa ((K0.o.al _).call h1 k1);have HZ1:=aa (k1.at (KS w _) (by omega));clear h1 k1;go_wp2_with fail;refine(H11.o _ K1.o).mono ?_;rintro _ w2 ⟨rfl,h2,k2⟩;have K2:=aa (K1.o.call h2 k2);have HZ2:=aa (k2.at HZ1.o (by omega));clear h2 k2 HZ1;go_wp2_with fail;refine(H12.o _ K2.o).mono ?_;rintro _ w3 ⟨rfl,h3,k3⟩;have K3:=aa (K2.o.call h3 k3);have HZ3:=aa (k3.at HZ2.o (by omega));clear h3 k3 HZ2;go_wp2_with fail;refine(HV.o _ K3.o).mono ?_;rintro _ w4 ⟨rfl,k4⟩;have hz:=k4.kp.at HZ3.o (by omega);have c:=ae hz;have fz:=ar hz;have hl:=ag hz;have K4:=aa (K3.o.tr k4);clear k4 hz;go_wp2_with fail;refine bodyPost_ret (v:=bw ⟨x1,x2,x3,none,0,0⟩) (by simp[results,results184,go_sem,bw, *]) rfl ⟨⟨x1,x2,x3,none,0,0⟩,rfl,?_,fun e=>?_⟩
 ·repeat' with_reducible first|exact K4.o|refine PK.al ?_ _|refine PK.st ?_ _ (KK _) _
 ·rw[HQ.o.2 e];exact bI.flat _ ⟨x1,x2,x3,none,0,0⟩ rfl
attribute [local go_sem ↓] Go.wp_at_zero Go.wp_at_succ
theorem PK.gr{w X Y:World}{b G:Nat}{s:St}(h:PK w X b G s){row:Option Nat}(hg:X.grownBy Y row)(hr:∀k,row=some k->w.heap.size<=k):PK w Y b G s:=⟨h.ps.grown hg hr h.hb h.hg,h.kp.grown hg hr,h.hb,h.hg⟩
theorem PK.own{w X Y:World}{b G B0 size n:Nat}{s:St}{e:TypeId}{v:Value}{xs:List Value}(q:PK w X b G s)(k:ai b X Y)(ho:X.ownsRow B0 e size v n xs)(hB:w.heap.size<=B0):Y.ownsRow B0 e size v n xs:=by
 refine⟨ho.1,?_⟩;rcases ho.2 with h|⟨g,cap,cur,h1,h2,h3,h4⟩
 ·exact Or.inl h
 ·exact Or.inr ⟨g,cap,cur,h1,h2,(k.block g (ag h3) (by have:=q.hb;omega)).trans h3,h4⟩
def zA(f:Nat):Prop:=∀(d D:Nat) (s:St) (w:World) (b G:Nat),d+D=10->PS w b G s->2*ln s+1<=f->Calls prog 184 #[.pointer (some ⟨b,0,none⟩),.int .i64 D] w (oy w b G f (bz f d s))
theorem info171:(prog.info? 171).map (fun i=>(i.zero,i.size,i.bytes))=some (some (.agg #[.int .i64 0,.int .i64 0,.string ⟨#[]⟩,.slice none 0 0]),4,56):=by kernel_rfl
structure mY(w:World)(B0:Nat)(vL:Value)(fs:List FV)(l:List RV)(k:Nat):Prop where
 e:fs.length=l.length
 sub:∀(i:Nat) (x:FV) (r:RV),fs[i]?=some x->l[i]?=some r->bI w (fun g=>B0<=g/\g<w.heap.size/\vL.ownBlock≠some g) k x (pv r)
theorem mY.far{w x:World}{B0 k:Nat}{vL:Value}{fs:List FV}{l:List RV}(h:mY w B0 vL fs l k)(hf:∀g,B0<=g->g<w.heap.size->x.heap[g]?=w.heap[g]?)(hs:w.heap.size<=x.heap.size):mY x B0 vL fs l k:=
 ⟨h.e,fun i y r hy hr=>(h.sub i y r hy hr).frame (fun g hg o=>World.cell?_of_block (a:=⟨g,o,none⟩) (hf g hg.1 hg.2.1)) (fun _ hg=>⟨hg.1,KV hg.2.1 hs,hg.2.2⟩)⟩
theorem mY.push{w x:World}{B0 g' LM k k2:Nat}{vL:Value}{fs:List FV}{l:List RV}{f:FV}{v:RV}(h:mY w B0 vL fs l k)(hv:bI w (fun g=>B0<=g/\g<w.heap.size/\vL.ownBlock≠some g) k2 f (pv v))(hk:k2<=k)
 (Nf:∀g,B0<=g->g<w.heap.size->vL.ownBlock≠some g->x.heap[g]?=w.heap[g]?) (hwh:vL.ownBlock=some g'\/w.heap.size<=g') (hs:w.heap.size<=x.heap.size):mY x B0 (.slice (some ⟨g',0,none⟩) (fs.length+1) LM) (fs++[f]) (l++[v]) k:=by
 have key:∀y r m,m<=k->bI w (fun g=>B0<=g/\g<w.heap.size/\vL.ownBlock≠some g) m y (pv r)->bI x (fun g=>B0<=g/\g<x.heap.size/\(Value.slice (some ⟨g',0,none⟩) (fs.length+1) LM).ownBlock≠some g) k y (pv r):=fun y r m hm q=>
  (q.le hm).frame (fun g hg o=>World.cell?_of_block (a:=⟨g,o,none⟩) (Nf g hg.1 hg.2.1 hg.2.2)) (fun g hg=>⟨hg.1,KV hg.2.1 hs,fun e=>by
   have e':g'=g:=KY e;rcases hwh with q|q
   ·exact hg.2.2 (by rw[<-e'];exact q)
   ·have:=hg.2.1;omega⟩)
 refine⟨by simp[h.e],fun i y r hy hr=>?_⟩;rcases Nat.lt_or_ge i fs.length with hi|hi
 ·rw[Lf hi]at hy
  rw[Lf (by rw[<-h.e];exact hi)]at hr;exact key y r k (KK _) (h.sub i y r hy hr)
 ·have hi2:i=fs.length:=by have:=(KO.1 hy).1;simp at this;omega
  subst hi2;have hx2:y=f:=by simpa using hy.symm
  have hr2:r=v:=by rw[h.e]at hr;simpa using hr.symm
  subst hx2 hr2;exact key _ _ k2 hk hv
theorem Eh(f d D:Nat)(hD:d+D=10)(ih:∀f0,f0<=f->zA f0)(s:St)(w:World)(b G:Nat)(h:PS w b G s)(hf:2*ln s+2<=f):
 Calls prog 206 #[.pointer (some ⟨b,0,none⟩),.int .i64 D] w (oy w b G (f+1) (.mk 5 0 ⟨#[]⟩ (bJ f d (if 10<=d then none else s)).1,(bJ f d (if 10<=d then none else s)).2)):=by
 obtain⟨iV,hiV,zV0,zV1,zV2⟩:=info_parts info171;have K0:=aa h.pk;have hlt:=h.lt;have hln:=h.len;have HIH:=aa ih;have HF:=aa (fun W (hW:PK w W b G s)=>mt W b G s hW.ps);have HS1:=aa (show(if 10<=d then none else s)=none\/(if 10<=d then none else s)=s from by split<;>simp);have HS0:=aa (show(D=0->(if 10<=d then none else s)=none)/\(D≠0->(if 10<=d then none else s)=s)from⟨fun e=>K9 (by omega),fun e=>K8 (by omega)⟩);clear h ih;generalize (if 10<=d then none else s)=s1 at*;unfold oy;have hl1:ln s1<=801:=by rcases HS1.o with e|e<;>rw[e]<;>first|exact hln|exact KU _
 have HF1:=aa (show s1=none\/2*ln s1+2<=f from HS1.o.imp (fun e=>e) (fun e=>by rw[e];exact hf));clear HS1;go_enter func206,ntmps206
 go_upto_if 7 with fail
 go_cut [] (fun wc=>PK w wc b G s1/\wc.heap[w.heap.size]?=some (.cells #[.int .i64 0,.int .i64 0,.string ⟨#[]⟩,.slice none 0 0] 171 (0,0)))
 case first=>
  rcases Nat.eq_zero_or_pos D with e|e
  ·subst e
   have e1:=HS0.o.1 rfl;subst e1;go_wp2_with fail;refine(HF.o _ (K0.o.al _)).mono ?_;rintro _ w1 ⟨rfl,h1,k1⟩;go_wp2_with fail;go_meet;exact⟨(K0.o.al _).call h1 k1,k1.at (KS w _) (by omega)⟩
  ·have e1:=HS0.o.2 (by omega)
   subst e1;have hd0:((D:Int)==0)=false:=by simp;omega
   go_wp2_with fail;go_meet;exact⟨K0.o.al _,KS w _⟩
 case rest=>
  obtain⟨k1,hz⟩:=hcut;have K1:=aa k1;have HZ:=aa hz;have hzl:=ag hz;have hb1:=k1.ps.lt;have hw1:=k1.kp.size;clear k1 hz HF;go_wp2_with fail;go_loopg [] (ln s1) (fun k wr=>∃(fs:List FV) (vL:Value) (s':St),ln s'<=k/\PK w wr b G s'/\wr.heap[wc.heap.size]?=some (.cells #[.int .i64 7,.int .i64 0,.string ⟨#[]⟩,vL] 171 (0,0))/\wr.heap[w.heap.size]?=some (.cells #[.int .i64 0,.int .i64 0,.string ⟨#[]⟩,.slice none 0 0] 171 (0,0))/\wr.ownsRow (wc.heap.size+1) 171 4 vL fs.length (fs.flatMap lD)/\fs.length+ln s'<=803/\wc.heap.size+1<=wr.heap.size/\((s'=none/\(bJ f d s1).2=none)\/∃l f',D≠0/\mY wr (wc.heap.size+1) vL fs l f/\2*ln s'+2<=f'/\f'<=f/\bJ f d s1=(l++(bJ f' d s').1,(bJ f' d s').2)))
  case atStart=>
   refine⟨[],_,s1,KK _,K1.o.al _,KS wc _,(bp _ _ _ hzl).trans HZ.o,K7 _ _ _ _,by simp;omega,by simp,?_⟩;by_cases e0:s1=none
   ·exact Or.inl ⟨e0,by rw[e0,mT]⟩
   ·exact Or.inr ⟨[],f,fun e=>e0 (HS0.o.1 e),⟨rfl,fun i x r hx _=>by simp at hx⟩,HF1.o.resolve_left e0,KK _,rfl⟩
  case round=>
   obtain⟨fs,vL,s',hlk,hk,hN,hR,LJ,Me,hsz,hgo⟩:=hrel;obtain⟨aL,cL,hvL⟩:=bc LJ;subst hvL;have KR:=aa hk;have HN:=aa hN;have HR:=aa hR;have Mq:=aa LJ;have HGO:=aa hgo;have hNl:=ag hN;have hRl:=ag hR;have hAE:=pc wr b G s' hk.ps;clear hk hN hR LJ hgo K1 HZ;cases eA:eu s'
   rotate_left
   ·rw[eA]at hAE
    have HE:=aa (show(bJ f d s1).2=none/\af s' 13=false from by
     rcases HGO.o with⟨e,e'⟩|⟨l,f',_,_,hf',_,e'⟩
     ·rw[e];exact⟨e',eP 13 (by decide)⟩
     ·rw[e']
      rcases J2 s' eA with e|e
      ·rw[e];exact⟨by rw[mT],eP 13 (by decide)⟩
      ·subst e
       have:4<=f':=hf';obtain⟨f2,rfl⟩:∃f2,f'=f2+2:=⟨f'-2,by omega⟩;exact⟨Hc f2 d,nN 13 (by decide)⟩)
    have HNE:=aa (iG wr b G s' 13 KR.o.ps);rw[HE.o.2]at HNE;generalize (ce s' 13).k=nk at*;generalize (ce s' 13).n=nn at*;generalize (ce s' 13).s=ny at*;clear eA HGO;go_wp2_with fail;refine hAE.mono ?_;rintro _ w' ⟨rfl,hw'⟩;have hw':=hw'.symm;subst hw';go_wp2_with fail;refine HNE.o.mono ?_;rintro _ w2 ⟨rfl,h2,k2⟩;have K2:=aa (show PK w w2 b G none from KR.o.call h2 k2);have hN2:=k2.at HN.o (by omega);have hR2:=k2.at HR.o (by omega);have c:=ae hN2;have c2:=ae hR2;have f2:=ar hR2;have hl2:=ag hR2;have hlN:=ag hN2;clear h2 k2 hN2 hR2 hAE;go_wp2_with fail;refine bodyPost_ret (v:=bw ⟨7,0,⟨#[]⟩,aL,fs.length,cL⟩) (by simp[results,results206,go_sem,bw, *]) rfl ⟨⟨7,0,⟨#[]⟩,aL,fs.length,cL⟩,rfl,?_,fun e=>absurd HE.o.1 e⟩;rw[HE.o.1];repeat' with_reducible first|exact K2.o|refine PK.al ?_ _|refine PK.st ?_ _ (KK _) _
   ·rw[eA]at hAE
    obtain⟨l,f',hD0,hC,hf',hff,HEQ⟩:∃l f',D≠0/\mY wr (wc.heap.size+1) (.slice aL fs.length cL) fs l f/\2*ln s'+2<=f'/\f'<=f/\Hi (bJ f d s1=(l++(bJ f' d s').1,(bJ f' d s').2)):=by
     rcases HGO.o with⟨e,e'⟩|⟨l,f',h0,h1,h2,h3,h4⟩
     ·rw[e]at eA;cases eA
     ·exact⟨l,f',h0,h1,h2,h3,aa h4⟩
    have hne:s'≠none:=fun e=>by rw[e]at eA;cases eA
    have HNE:=aa hne;have HC:=aa hC;obtain⟨f2,rfl⟩:∃f2,f'=f2+1:=⟨f'-1,by omega⟩;have hSE:=aa (qw wr b G s' 13 KR.o.ps);clear hC hne HGO eA;cases e13:af s' 13
    rotate_left
    ·have HE2:=aa (show bJ f d s1=(l,tl s')from by rw[HEQ.o,bJ,K8 HNE.o,K9 e13];simp)
     have HND:=aa (fun W (hW:PK w W b G s')=>iG W b G s' 13 hW.ps);rw[e13]at hSE HND;generalize (ce s' 13).k=nk at*;generalize (ce s' 13).n=nn at*;generalize (ce s' 13).s=ny at*;clear e13 HEQ;go_wp2_with fail;refine hAE.mono ?_;rintro _ w' ⟨rfl,hw'⟩;have hw':=hw'.symm;subst hw';go_wp2_with fail;refine hSE.o.mono ?_;rintro _ w1 ⟨rfl,b1⟩;have K1:=aa (KR.o.be b1);have hN1:=(b1.block _ hNl).trans HN.o;have hR1:=(b1.block _ hRl).trans HR.o;have HN1:=aa hN1;have HR1:=aa hR1;have HC1:=aa (HC.o.far (fun g _ h2=>b1.block g h2) b1.size);have HO1:=aa (bZ Mq.o b1);clear b1 hN1 hR1;go_wp2_with fail;refine(HND.o _ K1.o).mono ?_;rintro _ w2 ⟨rfl,h2,k2⟩;have K2:=aa (show PK w w2 b G (tl s')from K1.o.call h2 k2);have hN2:=k2.at HN1.o (by omega);have hR2:=k2.at HR1.o (by omega);have c:=ae hN2;have c2:=ae hR2;have f2:=ar hR2;have hl2:=ag hR2;have hlN:=ag hN2;have HC2:=aa (HC1.o.far (x:=w2) (fun g h1 h2=>k2.block g h2 (by omega)) k2.size);have HO2:=aa (K1.o.own k2 HO1.o (by omega));clear h2 k2 hN2 hR2 hAE;go_wp2_with fail;refine bodyPost_ret (v:=bw ⟨7,0,⟨#[]⟩,aL,fs.length,cL⟩) (by simp[results,results206,go_sem,bw, *]) rfl ⟨⟨7,0,⟨#[]⟩,aL,fs.length,cL⟩,rfl,?_,fun e=>?_⟩
     ·rw[HE2.o]
      show PK _ _ _ _ (tl s');repeat' with_reducible first|exact K2.o|refine PK.al ?_ _|refine PK.st ?_ _ (KK _) _
     ·rw[HE2.o,pv,vK]
      exact wj (sh:=7) (B0:=wc.heap.size+1) HO2.o (by rw[HC2.o.e,Ll]) (fun i x r hx hr=>by
       rw[La]at hr;obtain⟨r0,h0,rfl⟩:=Option.map_eq_some_iff.1 hr;exact HC2.o.sub i x r0 hx h0) (by omega) (fun g hg o=>World.cell?_of_block (a:=⟨g,o,none⟩) (fD _ _ g (show g≠w.heap.size from by omega) _ _ _ _)) (by simp[World.setCell])
    ·rw[e13]at hSE
     obtain⟨E,hE⟩:∃E:Nat,D=E+1:=⟨D-1,by omega⟩;have hwD:IntKind.i64.wrap ((D:Int)-1)=(E:Int):=by rw[wrap_small _ (by omega) (by omega)];omega
     have HIC:=aa (fun W (hW:PS W b G s')=>HIH.o f2 (by omega) (d+1) E s' W b G (by omega) hW (by omega));have hl6:=su (f2-1) (d+1) s' HNE.o;rw[show f2-1+1=f2 from by omega]at hl6;have HE2:=aa (show bJ f d s1=((l++[(bz f2 (d+1) s').1])++(bJ f2 d (bz f2 (d+1) s').2).1,(bJ f2 d (bz f2 (d+1) s').2).2)from by rw[HEQ.o,bJ,K8 HNE.o,K8 (by rw[e13];decide)];simp);have HEE:=aa hE;clear hE;unfold oy at HIC;generalize (bz f2 (d+1) s').1=r6 at*;generalize (bz f2 (d+1) s').2=s6 at*;clear e13 HEQ HIH;go_wp2_with fail;refine hAE.mono ?_;rintro _ w' ⟨rfl,hw'⟩;have hw':=hw'.symm;subst hw';go_wp2_with fail;refine hSE.o.mono ?_;rintro _ w1 ⟨rfl,b1⟩;have K1:=aa (KR.o.be b1);have hN1:=(b1.block _ hNl).trans HN.o;have c1:=ae hN1;have HN1:=aa hN1;have HR1:=aa ((b1.block _ hRl).trans HR.o);have HC1:=aa (HC.o.far (fun g _ h2=>b1.block g h2) b1.size);have HO1:=aa (bZ Mq.o b1);have Nq:=b1.size;clear b1 hN1;have hlN1:=ag HN1.o;have hbw:=K1.o.hb;have hlr6:ln s6<ln s':=hl6;go_wp2_with fail;go_region_law (first
      |(refine step_append_lies _ (by rfl) _ _ _ (by rfl) (wc.heap.size+1) 171 iV _ 4 56 underlying169 hiV zV0 zV1 zV2 rfl (by decide) _ _ _ (by rfl) (hO6.alloc _) ⟨w6.heap.size,0,none⟩ 1 1 [.int .i64 v.sh,.int .i64 v.n,.string v.s,.slice v.la v.ln v.lc] (by rfl) (by rfl) (de _ _ _ _ (by simp)) (uD rfl rfl rfl rfl) (by decide) (by unfold maxLen;omega) (by omega) (by simp;omega) (w6.heap.size+1) (by simp) ?_;intro g cap w7 hown7 hgrow hat hg7;have g7:=oP hO6 hgrow (Nat.lt_succ_self _) hN6;have e7:=ae g7;have f7:=ar g7;have l7:=ag g7)
      |(go_simp;go_at_call 184;refine(HIC.o _ ?_).mono ?_;(first|exact K1.o.dr.ps|exact K1.o.ps);rintro _ w6 ⟨v,rfl,k6,hv⟩;unfold bw;have hN6:=k6.kp.at HN1.o (by omega);have c6:=ae hN6;have hO6:=(by first|exact K1.o.own k6.kp HO1.o (by omega)|exact K1.o.dr.own k6.kp HO1.o (by omega));have l6:=ag hN6))
     all_goals(
      have kk:ai b w1 w6:=(by first|exact k6.kp|exact(ai.refl _ _).drew.trans k6.kp);have q6:PK w w6 b G s6:=(by first|exact K1.o.tr k6|exact K1.o.dr.tr k6);have hR6:=kk.at HR1.o (by omega);have hC6:=HC1.o.far (x:=w6) (fun g h1 h2=>kk.block g h2 (by omega)) kk.size;have hz7:=hgrow.size;simp at hz7;have Ma:∀k,(Value.slice aL fs.length cL).ownBlock=some k->k<w1.heap.size:=fun k hk=>ep HO1.o k hk;have HX:=aa (And.intro (PK.st ((q6.al _).gr hgrow (fun k hk=>KP (Nat.le_succ_of_le hw1) (hO6.lt k hk).1)) ⟨wc.heap.size,3,none⟩ hw1 (.slice (some ⟨g,0,none⟩) (fs.length+1) cap)) (And.intro (aJ g7 3 (.slice (some ⟨g,0,none⟩) (fs.length+1) cap)) (And.intro (qM hO6 hgrow (show w.heap.size<wc.heap.size+1 by omega) hR6 (show w.heap.size≠wc.heap.size by omega) 3 (.slice (some ⟨g,0,none⟩) (fs.length+1) cap)) (lq hown7 (Nat.lt_succ_self _) 3 (.slice (some ⟨g,0,none⟩) (fs.length+1) cap)))));have HGO:=aa (show(s6=none/\(bJ f d s1).2=none)\/∃l2 f',D≠0/\mY (w7.setCell ⟨wc.heap.size,3,none⟩ (.slice (some ⟨g,0,none⟩) (fs.length+1) cap)) (wc.heap.size+1) (.slice (some ⟨g,0,none⟩) (fs.length+1) cap) (fs++[v]) l2 f/\2*ln s6+2<=f'/\f'<=f/\bJ f d s1=(l2++(bJ f' d s6).1,(bJ f' d s6).2)from by
       by_cases e6:s6=none
       ·left
        exact⟨e6,by rw[HE2.o,e6,mT]⟩
       ·right
        refine⟨l++[r6],f2,hD0,hC6.push (k2:=f2) ((hv e6).frame (fun _ _ _=>rfl) (fun g' hg'=>?_)) (by omega) (fun k h1 h2 h3=>(KX _ _ _ _ (show k≠wc.heap.size by omega)).trans ((hgrow.block k (by simp;omega) (fun e=>h3 e.symm)).trans (bp _ _ _ h2))) (hat.imp (fun e=>e) (fun e=>by omega)) (by simp[World.setCell];omega),by omega,by omega,HE2.o⟩;have h1:w1.heap.size<=g':=hg'.1;exact⟨by omega,hg'.2,fun e=>by have:=Ma g' e;omega⟩)
      clear hgrow hown7 hO6 hN6 hR6 q6 g7 hC6 k6 kk hv hat;go_wp2_with fail;go_roundg (ln s6)
      case measure=>omega
      case rel=>exact⟨fs++[v],_,s6,KK _,HX.o.1,HX.o.2.1,HX.o.2.2.1,by rw[Lb,List.flatMap_append];exact HX.o.2.2.2,by simp;omega,by simp[World.setCell];omega,HGO.o⟩)
end Go.Proofs.YtgbloieahmkcjaaGreat
