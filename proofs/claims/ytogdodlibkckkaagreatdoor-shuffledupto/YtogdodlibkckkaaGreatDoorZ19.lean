import Derived.Test.YtogdodlibkckkaaGreatDoorZ13
import Derived.Test.YtogdodlibkckkaaGreatDoorZ10
namespace Go.Proofs.YtogdodlibkckkaaGreatDoor
set_option maxHeartbeats 20000000
set_option maxRecDepth 100000
open Go.RowKit Tryz
theorem tO(x:yF)(v:Value)(l:List yF)(w:World)(C:DU w v l)(H:l.length<=1000000):
 Calls prog 196 #[v,.string x] w fun e w'=>e=.returned (.int .i64 (Af l x))/\w'=w:=by
 obtain⟨a,cap,rfl,E,s⟩:=C;generalize A:Af l x=q;have p:=Aa A;have B:=Aa s;clear A s;go_enter func196,ntmps196;go_wp2;go_loopg [5,8] l.length (fun m v5 v8 wr=>∃k:Nat,v8=.int .i64 k/\k<=l.length/\l.length-k<=m/\wr=w/\∀y∈l.take k,y≠x)
 case atStart=>exact⟨0,rfl,wZ _,wQ _,rfl,by simp⟩
 case round=>
  obtain⟨k,rfl,G,I,h,u⟩:=hrel;have h:=h.symm;subst h;have d:=Aa u;clear u;by_cases f:k<l.length
  ·obtain⟨g,n,D,t⟩:∃g n,a=some ⟨g,n,none⟩/\∀j x,l[j]?=some x->w.cell? ⟨g,n+j,none⟩=some (.string x):=by
    rcases B.o with e|e
    ·rw[e]at f;simp at f
    ·exact e
   subst D;have i:=wS f;have F:=t k _ i;have r:=Aa i;clear t i;generalize l[k]=y at*;cases b:(x.toList==y.toList)
   ·go_wp2
    go_roundg (l.length-(k+1))
    case measure=>omega
    case rel=>exact⟨k+1,by go_num,by omega,wQ _,rfl,by
     rw[xL,r.o];intro z c;rcases yD.1 c with c|c
     ·exact d.o z c
     ·simp at c;subst c;rw[Cy]at b;intro e;rw[e]at b;simp at b⟩
   ·go_wp2
    go_ret;exact⟨CN (by rw[<-p.o];rw[Cy]at b;simp only[xK]at b;subst b;unfold Af;rw[JE l _ 0 k d.o r.o];simp),rfl⟩
  ·go_wp2
   go_ret;exact⟨CN (by
    rw[<-p.o];have:=d.o;rw[xB (by omega)]at this;unfold Af;rw[Kk l x 0 this]),rfl⟩
theorem Mc:∀(l:List yF) (x:yF),x∈l->0<=Af l x:=by
 have key:∀(l:List yF) (x:yF) (n:Nat),x∈l->0<=Fm l x n:=by
  intro l
  induction l with
  |nil=>intro x n a;simp at a
  |cons y ys c=>
   intro x n a;rw[Fm];split
   ·omega
   ·rename_i b
    exact c x (n+1) ((yE.1 a).resolve_left (fun e=>b e.symm))
 exact fun l x a=>key l x 0 a
theorem NW(x:yF)(v:Value)(l:List yF)(w:World)(c:DU w v l)(j:l.length<=1000000):
 Calls prog 148 #[v,.string x] w fun e w'=>e=.returned (.bool (AS x l))/\w'=w:=by
 have i:=tO x v l w c j;obtain⟨a,cap,rfl,_⟩:=c;have f:=Aa (show AS x l=decide ((0:Int)<=Af l x)from by
  rw[Bool.eq_iff_iff,FD,xK];constructor
  ·intro d
   rcases Int.lt_or_le (Af l x) 0 with q|q
   ·exfalso
    rcases List.getElem?_of_mem d with⟨k,p⟩;exact absurd q (fun q=>by
     have:=Mc l x d;omega)
   ·exact q
  ·intro m
   obtain⟨k,y,n,g,h,_⟩:=Cu (fun z=>z) l x (by simpa using Int.not_lt.2 m);exact h▸wT g)
 generalize AS x l=q at*;go_enter func148,ntmps148;go_wp2_with fail;refine i.mono ?_;rintro _ w' ⟨rfl,b⟩;have b:=b.symm;subst b;go_wp2;go_ret;exact⟨Al (by rw[f.o]),rfl⟩
structure DV(w:World)(v:Nat)(id:yF)(roles:List yF):Prop where
 b:∃a c,w.heap[v]?=some (.cells #[.string id,.slice a roles.length c] 92 (0,0))/\DU w (.slice a roles.length c) roles
 l:roles.length<=1000000
theorem DV.below{w w':World}{v:Nat}{id:yF}{roles:List yF}(d:DV w v id roles)(hb:yG w w'):DV w' v id roles:=by
 obtain⟨⟨a,c,b,e⟩,f⟩:=d;exact⟨⟨a,c,(hb.block _ (Ab b)).trans b,e.below hb⟩,f⟩
section
variable {w:World} {v:Nat} {id:yF} {roles:List yF}
theorem Zj(g:DV w v id roles)(x:yF):Calls prog 95 #[.pointer (some ⟨v,0,none⟩),.string x] w fun e w'=>e=.returned (.bool (AS x roles))/\w'=w:=by
 obtain⟨⟨a,c,d,f⟩,h⟩:=g;have i:=NW x _ roles w f h;have j:=Ac d;generalize AS x roles=q at*;clear d f;go_enter func95,ntmps95;go_wp2_with fail;refine i.mono ?_;rintro _ w' ⟨rfl,b⟩;have b:=b.symm;subst b;go_wp2;go_ret;exact⟨rfl,rfl⟩
def DW(roles:List yF)(x:yF):Bool:=decide (x=bE)||AS x roles
theorem Zl(c:DV w v id roles)(x:yF):Calls prog 98 #[.pointer (some ⟨v,0,none⟩),.string x] w fun e w'=>e=.returned (.bool (DW roles x))/\w'=w:=by
 have f:=Zj c x;have b:=Aa (show DW roles x=(x.toList.isEmpty||AS x roles)from by unfold DW;rw[KZ]);generalize DW roles x=q at*;generalize AS x roles=m at*;clear c;cases d:x.toList.isEmpty
 ·go_enter func98,ntmps98
  go_wp2_with fail;refine f.mono ?_;rintro _ w' ⟨rfl,a⟩;have a:=a.symm;subst a;go_wp2;go_ret;exact⟨Al (by rw[b.o,d];rfl),rfl⟩
 ·go_enter func98,ntmps98
  go_wp2;go_ret;exact⟨Al (by rw[b.o,d];rfl),rfl⟩
theorem wB(b:DV w v id roles){g o:Nat}{f:Am}{u:Value}(d:Cn w g o f u):Calls prog 59 #[.pointer (some ⟨v,0,none⟩),.pointer (some ⟨g,o,none⟩)] w fun e w'=>e=.returned (.bool (!DW roles f.auth))/\w'=w:=by
 have h:=Zl b f.auth;have c:=d.c1;generalize DW roles f.auth=m at*;clear b d;go_enter func59,ntmps59;go_wp2_with fail;refine h.mono ?_;rintro _ w' ⟨rfl,a⟩;have a:=a.symm;subst a;go_wp2;go_ret;exact⟨rfl,rfl⟩
theorem Zk(b:DV w v id roles){g o:Nat}{f:Am}{u:Value}(d:Cn w g o f u):Calls prog 60 #[.pointer (some ⟨v,0,none⟩),.pointer (some ⟨g,o,none⟩)] w fun e w'=>e=.returned (.bool (!DW roles f.hide_))/\w'=w:=by
 have h:=Zl b f.hide_;have c:=d.c2;generalize DW roles f.hide_=m at*;clear b d;go_enter func60,ntmps60;go_wp2_with fail;refine h.mono ?_;rintro _ w' ⟨rfl,a⟩;have a:=a.symm;subst a;go_wp2;go_ret;exact⟨rfl,rfl⟩
theorem Tc{g o:Nat}{f:Am}{u:Value}(a:Cn w g o f u):Calls prog 143 #[.pointer (some ⟨g,o,none⟩)] w fun e w'=>e=.returned (.bool (decide (f.arg=De)))/\w'=w:=by
 have c:=a.c3;have b:=Aa (show decide (f.arg=De)=(f.arg.toList==[105,100])from by rw[<-Cy,Lib.toList_data De];rfl);generalize decide (f.arg=De)=q at*;clear a;go_enter func143,ntmps143;go_wp2;go_ret;exact⟨Al (by rw[b.o]),rfl⟩
end
def Jb(k:Nat)(c:yF):Bool:=if k=1 then(c.toList==[73,110,116])else if k=2 then((c.toList==[83,116,114,105,110,103])||(c.toList==[73,68]))else if k=3\/k=4 then(c.toList==[66,111,111,108,101,97,110])else false
theorem Vw(w:World)(k:Nat)(n:Int)(t c:yF):Calls prog 110 #[.agg #[.int .i64 k,.int .i64 n,.string t],.string c] w fun e w'=>e=.returned (.bool (Jb k c))/\yG w w':=by
 have b:=Aa (Jb.eq_1 k c);generalize Jb k c=q at*;have d:k=1\/k=2\/k=3\/k=4\/(k≠1/\k≠2/\k≠3/\k≠4):=by omega
 rcases d with rfl|rfl|rfl|rfl|⟨f,g,h,i⟩;all_goals
  have a:=Aa b.o;simp[*]at a;clear b
 case inr.inl=>
  cases hs:(c.toList==[83,116,114,105,110,103])<;>rw[hs]at a;all_goals
   go_enter func110,ntmps110;go_wp2;go_ret;exact⟨Al (by rw[a.o];simp),bA (wR _ _) _⟩
 all_goals
  go_enter func110,ntmps110;go_wp2;go_ret;exact⟨Al (by rw[a.o]),bA (wR _ _) _⟩
def GD(id:yF)(k:Nat)(n:Int)(t:yF):Nat×Int×yF:=if k=5 then(2,0,id)else(k,n,t)
theorem nL(w:World)(v:Nat)(id:yF)(roles:List yF)(g:DV w v id roles)(k:Nat)(n:Int)(t:yF):Calls prog 97 #[.pointer (some ⟨v,0,none⟩),.agg #[.int .i64 k,.int .i64 n,.string t]] w fun e w'=>e=.returned (.agg #[.int .i64 (GD id k n t).1,.int .i64 (GD id k n t).2.1,.string (GD id k n t).2.2])/\yG w w':=by
 obtain⟨⟨a,c,b,_⟩,_⟩:=g;have h:=Ac b;have j:=Ab b;have l:v<w.heap.size+1:=by omega
 clear b;by_cases d:k=5
 ·subst d
  go_enter func97,ntmps97;go_wp2;refine bodyPost_ret (v:=.agg #[.int .i64 2,.int .i64 0,.string id]) (by simp[results,results97,go_sem]) rfl ⟨rfl,?_⟩;repeat' with_reducible first|exact wR _ _|refine bA ?_ _|refine bS ?_ _ (by show _<=_;omega) _
 ·have i:((k:Int)==5)=false:=by simp;omega
  have f:=Aa (show GD id k n t=(k,n,t)from by unfold GD;rw[xG d]);rw[f.o];go_enter func97,ntmps97;go_wp2;refine bodyPost_ret (v:=.agg #[.int .i64 k,.int .i64 n,.string t]) (by simp[results,results97,go_sem]) rfl ⟨rfl,?_⟩;repeat' with_reducible first|exact wR _ _|refine bA ?_ _|refine bS ?_ _ (by show _<=_;omega) _
structure BU where
 g:Nat
 o:Nat
 f:Am
 u:Value
 t:yF
 c:FV
def Lq(c:BU):List Value:=[.pointer (some ⟨c.g,c.o,none⟩),.string c.t,.int .i64 c.c.sh,.int .i64 c.c.n,.string c.c.s,.slice c.c.la c.c.ln c.c.lc]
def Gn(w:World)(v:Value)(l:List BU):Prop:=∃a cap,v=.slice a l.length cap/\l.length<=cap/\(l=[]\/∃g b,a=some ⟨g,b,none⟩/\∀j c,l[j]?=some c->(∀i,i<6->w.cell? ⟨g,b+j*6+i,none⟩=(Lq c)[i]?)/\Cn w c.g c.o c.f c.u)
theorem Gn.below{w w':World}{v:Value}{l:List BU}(h:Gn w v l)(hb:yG w w'):Gn w' v l:=by
 obtain⟨a,cap,k,m,n⟩:=h;refine⟨a,cap,k,m,n.imp (fun e=>e) ?_⟩;rintro⟨g,r,p,b⟩;refine⟨g,r,p,fun j c f=>⟨fun i d=>?_,((b j c f).2).below hb⟩⟩;have q:=(b j c f).1 i d;rw[wS (show i<(Lq c).length from d)]at q⊢;exact Ah hb q
theorem Gn.at{w:World}{a:Option Addr}{cap j:Nat}{l:List BU}{c:BU}(h:Gn w (.slice a l.length cap) l)(d:l[j]?=some c):∃g b,a=some ⟨g,b,none⟩/\w.cell? ⟨g,b+j*6,none⟩=some (.pointer (some ⟨c.g,c.o,none⟩))/\w.cell? ⟨g,b+j*6+1,none⟩=some (.string c.t)/\w.cell? ⟨g,b+j*6+2,none⟩=some (.int .i64 c.c.sh)/\w.cell? ⟨g,b+j*6+3,none⟩=some (.int .i64 c.c.n)/\w.cell? ⟨g,b+j*6+4,none⟩=some (.string c.c.s)/\w.cell? ⟨g,b+j*6+5,none⟩=some (.slice c.c.la c.c.ln c.c.lc)/\Cn w c.g c.o c.f c.u:=by
 obtain⟨r,v,e,_,i⟩:=h;cases e;rcases i with e|⟨g,b,k,p⟩
 ·rw[e]at d;simp at d
 ·obtain⟨q,m⟩:=p j c d
  exact⟨g,b,k,q 0 (by omega),q 1 (by omega),q 2 (by omega),q 3 (by omega),q 4 (by omega),q 5 (by omega),m⟩
def CC(c:BU):yF:=c.f.name
theorem dD(w:World)(Z:Nat)(x:yF)(c:BU)(a:Cn w c.g c.o c.f c.u)(b:w.cell? ⟨Z,0,none⟩=some (.string x)):
 Calls prog 192 #[.agg #[.pointer (some ⟨c.g,c.o,none⟩),.string c.t,.int .i64 c.c.sh,.int .i64 c.c.n,.string c.c.s,.slice c.c.la c.c.ln c.c.lc],.pointer (some ⟨Z,0,none⟩)] w fun e w'=>e=.returned (.bool (c.f.name.toList==x.toList))/\yG w w':=by
 have i:Z<w.heap.size:=wW w _ b;have h:c.g<w.heap.size:=wW w _ a.c0;have d:=a.c0;clear a;go_enter func192,ntmps192;go_wp2;go_quiet (fail);go_wp2;go_ret;exact⟨rfl,below_drewN (bA (wR _ _) _) _⟩
theorem iY(w:World)(v:Value)(Z:Nat)(x:yF)(l:List BU)(A:Gn w v l)(L:l.length<=1000000)(b:w.cell? ⟨Z,0,none⟩=some (.string x)):
 Calls prog 191 #[v,.func (Fn.func 192) #[] #[.pointer (some ⟨Z,0,none⟩)]] w fun e w'=>e=.returned (.int .i64 (Af (l.map CC) x))/\yG w w':=by
 have E:=Aa A;have F:=Aa b;obtain⟨a,cap,rfl,_⟩:=A;have N:Z<w.heap.size:=wW w _ b;generalize D:Af (l.map CC) x=q;have t:=Aa D;clear D b;go_enter func191,ntmps191;go_wp2;go_loopg [5,8] l.length (fun m v5 v8 wr=>∃k:Nat,v8=.int .i64 k/\k<=l.length/\l.length-k<=m/\yG w wr/\∀y∈(l.map CC).take k,y≠x)
 case atStart=>exact⟨0,rfl,wZ _,wQ _,wR _ _,by simp⟩
 case round=>
  obtain⟨k,rfl,K,M,hb,B⟩:=hrel;have j:=Aa B;have s:=Aa hb;clear B;by_cases H:k<l.length
  ·obtain⟨c,r⟩:∃c,l[k]?=some c:=⟨_,wS H⟩
   obtain⟨g,O,G,c0,c1,c2,c3,c4,I,C⟩:=(E.o.below hb).at r;subst G;have J:g<wr.heap.size:=wW wr _ c0;have h:=dD wr Z x c C (Ah hb F.o);have u:=Aa (show(l.map CC)[k]?=some (CC c)from by rw[xI,r];rfl);clear C r hb;cases d:(c.f.name.toList==x.toList)
   ·rw[d]at h
    have n:=Aa (show CC c≠x from fun e=>by
     rw[Cy]at d;simp only[decide_eq_false_iff_not]at d;exact d e)
    clear d;go_wp2_with fail;refine h.mono ?_;rintro _ w1 ⟨rfl,i⟩;have p:=bT s.o i;clear h i;go_wp2;go_roundg (l.length-(k+1))
    case measure=>omega
    case rel=>exact⟨k+1,by go_num,by omega,wQ _,p,by
     rw[xL,u.o];intro z b;rcases yD.1 b with b|b
     ·exact j.o z b
     ·simp at b;subst b;exact n.o⟩
   ·rw[d]at h
    have n:=Aa (show CC c=x from by rw[Cy]at d;exact of_decide_eq_true d);clear d;go_wp2_with fail;refine h.mono ?_;rintro _ w1 ⟨rfl,i⟩;have p:=bT s.o i;clear h i;go_wp2;go_ret;exact⟨CN (by rw[<-t.o];unfold Af;rw[JE (l.map CC) x 0 k j.o (by rw[u.o,n.o])];simp),p⟩
  ·go_wp2
   go_ret;exact⟨CN (by
    rw[<-t.o];have:=j.o;rw[xB (by simp;omega)]at this;unfold Af;rw[Kk (l.map CC) x 0 this]),hb⟩
theorem XK(w:World)(g o:Nat)(v:Value)(x:yF)(l:List BU)(j:w.cell? ⟨g,o+2,none⟩=some v)(b:Gn w v l)(i:l.length<=1000000):
 Calls prog 144 #[.pointer (some ⟨g,o,none⟩),.string x] w fun e w'=>e=.returned (.int .i64 (Af (l.map CC) x))/\yG w w':=by
 have c:=Aa b;obtain⟨a,cap,rfl,_⟩:=b;have m:g<w.heap.size:=wW w _ j;have d:=Aa (fun W Z (h:yG w W) (k:W.cell? ⟨Z,0,none⟩=some (.string x))=>iY W (.slice a l.length cap) Z x l (c.o.below h) i k);generalize Af (l.map CC) x=q at*;go_enter func144,ntmps144;go_wp2_with fail;refine(d.o _ _ (bA (wR _ _) _) (by simp)).mono ?_;rintro _ w1 ⟨rfl,f⟩;go_wp2;go_ret;exact⟨rfl,bT (bA (wR _ _) _) f⟩
def EN(l:List BU)(x:yF):FV:=if Af (l.map CC) x<0 then LY else match l[(Af (l.map CC) x).toNat]? with
 |some c=>c.c
 |none=>LY
theorem UH(w:World)(g o:Nat)(v:Value)(x:yF)(l:List BU)(h:w.cell? ⟨g,o+2,none⟩=some v)(t:Gn w v l)(H:l.length<=1000000):
 Calls prog 96 #[.pointer (some ⟨g,o,none⟩),.string x] w fun e w'=>e=.returned (Ct (EN l x))/\yG w w':=by
 have B:=Aa t;have i:=Aa (fun W (A:yG w W)=>XK W g o v x l (Ah A h) (t.below A) H);have D:=Aa h;obtain⟨a,cap,rfl,_⟩:=t;have M:g<w.heap.size:=wW w _ h;have r:=Aa (EN.eq_1 l x);generalize EN l x=q at*;clear h;by_cases m:Af (l.map CC) x<0
 ·have p:=Aa (show q=LY from by rw[r.o,xH m])
  generalize Af (l.map CC) x=J at*;go_enter func96,ntmps96;go_wp2_with fail;refine(i.o _ (bA (wR _ _) _)).mono ?_;rintro _ w1 ⟨rfl,d⟩;have b:=(d.block _ (by simp)).trans (Xq w (.cells #[.int .i64 0,.int .i64 0,.string ⟨#[]⟩,.slice none 0 0] 157));have c:=Ac b;have f:=Ak b;have u:=Aa (bT (bA (wR w.heap.size w) _) d);clear b d;go_wp2;refine bodyPost_ret (v:=.agg #[.int .i64 0,.int .i64 0,.string ⟨#[]⟩,.slice none 0 0]) (by simp[results,results96,go_sem,c]) rfl ⟨by rw[p.o];rfl,?_⟩;repeat' with_reducible first|exact u.o|refine bA ?_ _|refine bS ?_ _ (wQ _) _
 ·obtain⟨k,c,z,y,_,O⟩:=Cu CC l x m
  have p:=Aa (show q=c.c from by rw[r.o,xG m,z,xS,y]);rw[z]at i;have C:=Aa y;clear m z r y;go_enter func96,ntmps96;go_wp2_with fail;refine(i.o _ (bA (wR _ _) _)).mono ?_;rintro _ w1 ⟨rfl,d⟩;have b:=(d.block _ (by simp)).trans (Xq w (.cells #[.int .i64 0,.int .i64 0,.string ⟨#[]⟩,.slice none 0 0] 157));have E:=Ac b;have K:=Ak b;have P:=Ab b;have j:=bT (bA (wR w.heap.size w) (.cells #[.int .i64 0,.int .i64 0,.string ⟨#[]⟩,.slice none 0 0] 157)) d;have h:=Ah j D.o;have N:g<w1.heap.size:=wW w1 _ h;obtain⟨F,Q,G,c0,c1,c2,c3,c4,I,_⟩:=(B.o.below j).at C.o;subst G;have L:F<w1.heap.size:=wW w1 _ c0;have u:=Aa j;clear b d j i;go_wp2;refine bodyPost_ret (v:=.agg #[.int .i64 c.c.sh,.int .i64 c.c.n,.string c.c.s,.slice c.c.la c.c.ln c.c.lc]) (by simp[results,results96,go_sem,E]) rfl ⟨by rw[p.o];rfl,?_⟩;repeat' with_reducible first|exact u.o|refine bA ?_ _|refine bS ?_ _ (wQ _) _
def GP(w:World)(v:Value)(us:List Value):Prop:=∃a cap,v=.slice a us.length cap/\(us=[]\/∃g b,a=some ⟨g,b,none⟩/\∀j u,us[j]?=some u->w.cell? ⟨g,b+j,none⟩=some u)
theorem GP.below{w w':World}{v:Value}{us:List Value}(b:GP w v us)(hb:yG w w'):GP w' v us:=by
 obtain⟨a,cap,c,d⟩:=b;refine⟨a,cap,c,d.imp (fun e=>e) ?_⟩;rintro⟨g,k,f,h⟩;exact⟨g,k,f,fun j u i=>Ah hb (h j u i)⟩
theorem GP.at{w:World}{a:Option Addr}{cap j:Nat}{us:List Value}{u:Value}(d:GP w (.slice a us.length cap) us)(c:us[j]?=some u):∃g b,a=some ⟨g,b,none⟩/\w.cell? ⟨g,b+j,none⟩=some u:=by
 obtain⟨k,l,e,f⟩:=d;cases e;rcases f with e|⟨g,b,h,i⟩
 ·rw[e]at c;simp at c
 ·exact⟨g,b,h,i j u c⟩
theorem jF(w:World)(v:Value)(Z Y:Nat)(us:List Value)(c:List Bool)(y:GP w v us)(B:c.length=us.length)(J:us.length<=1000000)(A:∀u∈us,∃q,u=.pointer q)
 (f:∀W,yG w W->∀(j:Nat) (u:Value) (b:Bool),us[j]?=some u->c[j]?=some b->Calls prog 92 #[u,.pointer (some ⟨Z,0,none⟩),.pointer (some ⟨Y,0,none⟩)] W fun e w'=>e=.returned (.bool b)/\yG W w'):
 Calls prog 147 #[v,.func (Fn.func 92) #[] #[.pointer (some ⟨Z,0,none⟩),.pointer (some ⟨Y,0,none⟩)]] w fun e w'=>(∃r:Int,e=.returned (.int .i64 r)/\decide (0<=r)=c.any (fun b=>b))/\yG w w':=by
 have C:=Aa y;have D:=Aa f;have x:=Aa B;have E:=Aa A;obtain⟨a,cap,rfl,_⟩:=y;clear f B A;go_enter func147,ntmps147;go_wp2;go_loopg [5,8] us.length (fun m v5 v8 wr=>∃k:Nat,v8=.int .i64 k/\k<=us.length/\us.length-k<=m/\yG w wr/\c.any (fun b=>b)=(c.drop k).any (fun b=>b))
 case atStart=>exact⟨0,rfl,wZ _,wQ _,wR _ _,rfl⟩
 case round=>
  obtain⟨k,rfl,I,K,hb,f⟩:=hrel;have s:=Aa f;have p:=Aa hb;clear f;by_cases z:k<us.length
  ·obtain⟨u,i⟩:∃u,us[k]?=some u:=⟨_,wS z⟩
   obtain⟨b,n⟩:∃b,c[k]?=some b:=⟨_,wS (by rw[x.o];exact z)⟩;obtain⟨g,L,F,c0⟩:=(C.o.below hb).at i;subst F;have h:=D.o wr hb k u b i n;obtain⟨M,G⟩:=E.o u (wT i);subst G;have t:=Aa (show c.any (fun b=>b)=(b||(c.drop (k+1)).any (fun b=>b))from by
    rw[s.o];obtain⟨H,rfl⟩:=wU.1 n;rw[xX H];rfl)
   clear i n hb;cases b
   ·go_wp2_with fail
    refine h.mono ?_;rintro _ w1 ⟨rfl,d⟩;have l:=bT p.o d;clear h d;go_wp2;go_roundg (us.length-(k+1))
    case measure=>omega
    case rel=>exact⟨k+1,by go_num,by omega,wQ _,l,by rw[t.o];rfl⟩
   ·go_wp2_with fail
    refine h.mono ?_;rintro _ w1 ⟨rfl,d⟩;have l:=bT p.o d;clear h d;go_wp2;go_ret;exact⟨⟨_,rfl,by rw[t.o];simp⟩,l⟩
  ·go_wp2
   go_ret;exact⟨⟨_,rfl,by rw[s.o,xW (by rw[x.o];omega)];rfl⟩,hb⟩
theorem aE(w:World)(v:Value)(Z Y:Nat)(us:List Value)(c:List Bool)(d:GP w v us)(i:c.length=us.length)(n:us.length<=1000000)(h:∀u∈us,∃q,u=.pointer q)
 (f:∀W,yG w W->∀(j:Nat) (u:Value) (b:Bool),us[j]?=some u->c[j]?=some b->Calls prog 92 #[u,.pointer (some ⟨Z,0,none⟩),.pointer (some ⟨Y,0,none⟩)] W fun e w'=>e=.returned (.bool b)/\yG W w'):
 Calls prog 93 #[v,.func (Fn.func 92) #[] #[.pointer (some ⟨Z,0,none⟩),.pointer (some ⟨Y,0,none⟩)]] w fun e w'=>e=.returned (.bool (c.any (fun b=>b)))/\yG w w':=by
 have g:=jF w v Z Y us c d i n h f;obtain⟨a,cap,rfl,_⟩:=d;clear f i h;go_enter func93,ntmps93;go_wp2_with fail;refine g.mono ?_;rintro _ w1 ⟨⟨r,rfl,k⟩,m⟩;have l:=Aa k;clear k g;go_wp2;go_ret;exact⟨Al l.o,m⟩
theorem jG(w:World)(v:Value)(Z:Nat)(us:List Value)(c:List Bool)(y:GP w v us)(B:c.length=us.length)(J:us.length<=1000000)(A:∀u∈us,∃q,u=.pointer q)
 (f:∀W,yG w W->∀(j:Nat) (u:Value) (b:Bool),us[j]?=some u->c[j]?=some b->Calls prog 94 #[u,.pointer (some ⟨Z,0,none⟩)] W fun e w'=>e=.returned (.bool b)/\yG W w'):
 Calls prog 147 #[v,.func (Fn.func 94) #[] #[.pointer (some ⟨Z,0,none⟩)]] w fun e w'=>(∃r:Int,e=.returned (.int .i64 r)/\decide (0<=r)=c.any (fun b=>b))/\yG w w':=by
 have C:=Aa y;have D:=Aa f;have x:=Aa B;have E:=Aa A;obtain⟨a,cap,rfl,_⟩:=y;clear f B A;go_enter func147,ntmps147;go_wp2;go_loopg [5,8] us.length (fun m v5 v8 wr=>∃k:Nat,v8=.int .i64 k/\k<=us.length/\us.length-k<=m/\yG w wr/\c.any (fun b=>b)=(c.drop k).any (fun b=>b))
 case atStart=>exact⟨0,rfl,wZ _,wQ _,wR _ _,rfl⟩
 case round=>
  obtain⟨k,rfl,I,K,hb,f⟩:=hrel;have s:=Aa f;have p:=Aa hb;clear f;by_cases z:k<us.length
  ·obtain⟨u,i⟩:∃u,us[k]?=some u:=⟨_,wS z⟩
   obtain⟨b,n⟩:∃b,c[k]?=some b:=⟨_,wS (by rw[x.o];exact z)⟩;obtain⟨g,L,F,c0⟩:=(C.o.below hb).at i;subst F;have h:=D.o wr hb k u b i n;obtain⟨M,G⟩:=E.o u (wT i);subst G;have t:=Aa (show c.any (fun b=>b)=(b||(c.drop (k+1)).any (fun b=>b))from by
    rw[s.o];obtain⟨H,rfl⟩:=wU.1 n;rw[xX H];rfl)
   clear i n hb;cases b
   ·go_wp2_with fail
    refine h.mono ?_;rintro _ w1 ⟨rfl,d⟩;have l:=bT p.o d;clear h d;go_wp2;go_roundg (us.length-(k+1))
    case measure=>omega
    case rel=>exact⟨k+1,by go_num,by omega,wQ _,l,by rw[t.o];rfl⟩
   ·go_wp2_with fail
    refine h.mono ?_;rintro _ w1 ⟨rfl,d⟩;have l:=bT p.o d;clear h d;go_wp2;go_ret;exact⟨⟨_,rfl,by rw[t.o];simp⟩,l⟩
  ·go_wp2
   go_ret;exact⟨⟨_,rfl,by rw[s.o,xW (by rw[x.o];omega)];rfl⟩,hb⟩
theorem aG(w:World)(v:Value)(Z:Nat)(us:List Value)(c:List Bool)(d:GP w v us)(i:c.length=us.length)(n:us.length<=1000000)(h:∀u∈us,∃q,u=.pointer q)
 (f:∀W,yG w W->∀(j:Nat) (u:Value) (b:Bool),us[j]?=some u->c[j]?=some b->Calls prog 94 #[u,.pointer (some ⟨Z,0,none⟩)] W fun e w'=>e=.returned (.bool b)/\yG W w'):
 Calls prog 93 #[v,.func (Fn.func 94) #[] #[.pointer (some ⟨Z,0,none⟩)]] w fun e w'=>e=.returned (.bool (c.any (fun b=>b)))/\yG w w':=by
 have g:=jG w v Z us c d i n h f;obtain⟨a,cap,rfl,_⟩:=d;clear f i h;go_enter func93,ntmps93;go_wp2_with fail;refine g.mono ?_;rintro _ w1 ⟨⟨r,rfl,k⟩,m⟩;have l:=Aa k;clear k g;go_wp2;go_ret;exact⟨Al l.o,m⟩
mutual
def pv:RV->RV
 | .mk sh n s l=>.mk (Ce (sh,n,s)).1 (Ce (sh,n,s)).2.1 (Ce (sh,n,s)).2.2 (Mw l)
def Mw:List RV->List RV
 |[]=>[]
 |t::l=>pv t::Mw l
end
theorem Kt:∀l:List RV,Mw l=l.map pv
 |[]=>by rw[Mw];rfl
 |t::l=>by rw[Mw,Kt l];rfl
theorem Pn(s:St)(a:IB s=true):pVal s=tl s/\valK s=Ce ((FA s).sh,(FA s).n,(FA s).s)/\Ae s 5=false/\Ae s 11=false/\Ae s 12=false:=by
 have d:(hd s).k=2\/(hd s).k=3\/((hd s).k=1/\((hd s).s=Iv\/(hd s).s=It\/(hd s).s=LS)):=by
  unfold IB Ae Bu at a;simp only[Bool.or_eq_true,xQ,beq_iff_eq,xK]at a;rcases a with(((a|a)|a)|a)|a
  ·exact Or.inl a
  ·exact Or.inr (Or.inl a)
  ·exact Or.inr (Or.inr ⟨a.1,Or.inl a.2⟩)
  ·exact Or.inr (Or.inr ⟨a.1,Or.inr (Or.inl a.2)⟩)
  ·exact Or.inr (Or.inr ⟨a.1,Or.inr (Or.inr a.2)⟩)
 have f:∀K,K≠1->K≠2->K≠3->Ae s K=false:=fun K l m p=>by
  unfold Ae;rw[beq_eq_false_iff_ne];rcases d with a|a|⟨a,_⟩<;>omega
 have g:It≠Iv:=by decide
 have h:LS≠Iv:=by decide
 have i:LS≠It:=by decide
 refine⟨?_,?_,f 5 (by decide) (by decide) (by decide),f 11 (by decide) (by decide) (by decide),f 12 (by decide) (by decide) (by decide)⟩
 ·unfold pVal Jo
  rcases d with a|a|⟨a,e⟩
  ·simp[a]
  ·simp[a]
  ·rcases e with e|e|e<;>simp[a,e,g,h,i]
 ·rcases d with a|a|⟨a,e⟩
  ·simp[valK,FA,rk,a,Ce]
  ·simp[valK,FA,rk,rs,a,Ce]
  ·have j:FA s=if (hd s).s=Iv then⟨3,1,⟨#[]⟩,none,0,0⟩else if (hd s).s=It then⟨3,0,⟨#[]⟩,none,0,0⟩else LY:=by
    unfold FA rk rs;simp only[a,BX];by_cases b:(hd s).s=Iv
    ·rw[xH b];simp[show(hd s).s=Az [116,114,117,101]from b]
    ·rw[xG b]
     by_cases c:(hd s).s=It
     ·rw[xH c];simp[show(hd s).s=Az [102,97,108,115,101]from c]<;>decide
     ·rw[xG c];simp[show¬(hd s).s=Az [116,114,117,101]from b,show¬(hd s).s=Az [102,97,108,115,101]from c]
   rw[j];unfold valK KE;rcases e with e|e|e<;>simp[a,e,g,h,i,Ce,LY]
theorem oR(s:St)(a:IB s=false):pVal s=none:=by
 unfold IB Ae Bu at a;simp only[Bool.or_eq_false_iff,Bool.and_eq_false_iff,beq_eq_false_iff_ne,decide_eq_false_iff_not]at a;obtain⟨⟨⟨⟨b,c⟩,d⟩,f⟩,g⟩:=a;unfold pVal Jo;rw[xG b,xG c];split
 ·rename_i e
  rw[xG (d.resolve_left (fun x=>x e)),xG (f.resolve_left (fun x=>x e)),xG (g.resolve_left (fun x=>x e))]
 ·rfl
theorem bZ(f d:Nat):(Bj (f+2) d (some [])).2=none:=by
 rw[Bj,xG (by simp),xG (by rw[Lf 13 (by decide)];decide)];have:(Bb (f+1) (d+1) (some [])).2=none:=by
  rw[Bb,xG (by decide),xG (by rw[Lf 5 (by decide)];decide),xG (by rw[Lf 11 (by decide)];decide),Lf 12 (by decide)];have e:(if 10<=d+1 then none else mustT (some []) false)=none:=by split<;>rfl
  rw[e,LV]
 rw[this,LV]
theorem bF(s:St):Co s=true->s=none\/s=some []:=by
 unfold Co
 match s with
 |none=>exact fun _=>Or.inl rfl
 |some []=>exact fun _=>Or.inr rfl
 |some (t::l)=>intro a;simp at a
abbrev NB(w w':World):Nat->Prop:=fun g=>w.heap.size<=g/\g<w'.heap.size
def Ka(w:World)(b G:Nat)(k:Nat)(q:RV×St)(e:Ending)(w':World):Prop:=∃v:FV,e=.returned (Ct v)/\PK w w' b G q.2/\(q.2≠none->Ba w' (NB w w') k v (pv q.1)/\v.ln<=v.lc)
theorem dR(f d D:Nat)(s:St)(w:World)(b G:Nat)(R:PS w b G s)
 (ae:∀W,PK w W b G (tl s)->Ae s 12=true->Calls prog 237 #[.pointer (some ⟨b,0,none⟩),.int .i64 D] W (Ka W b G (f+1) (.mk 5 0 ⟨#[]⟩ (Bj f d (if 10<=d then none else tl s)).1,(Bj f d (if 10<=d then none else tl s)).2))):
 Calls prog 193 #[.pointer (some ⟨b,0,none⟩),.int .i64 D] w (Ka w b G (f+1) (Bb (f+1) d s)):=by
 have B:=Aa R.pk;have ak:=R.lt;have O:=Aa ae;have p:=Aa (fun(K:Nat) W (J:PK w W b G s)=>EG W b G s K J.ps);clear R ae;unfold Ka;cases l:Ae s 5
 rotate_left
 ·have x:=Aa (show Bb (f+1) d s=(.mk 6 0 ⟨#[]⟩ [],tl s)from by
   rw[Bb,xG (fun e=>by rw[(Pn s e).2.2.1]at l;cases l),xH l])
  have F:=Aa (p.o 5);rw[l]at F;generalize Bb (f+1) d s=q at*;clear l p O;go_enter func193,ntmps193;go_wp2_with fail;refine(F.o _ (B.o.al _)).mono ?_;rintro _ w1 ⟨rfl,j,i⟩;have r:=Aa (show PK w w1 b G (tl s)from(B.o.al _).call j i);have h:=i.at (wX w _) (by omega);have c:=Ac h;have f:=Ak h;have V:=Ab h;clear j i h;go_wp2_with fail;rw[x.o];refine bodyPost_ret (v:=Ct ⟨8,0,⟨#[]⟩,none,0,0⟩) (by simp[results,results193,go_sem,Ct, *]) rfl ⟨⟨8,0,⟨#[]⟩,none,0,0⟩,rfl,?_,fun _=>?_⟩
  ·show PK _ _ _ _ (tl s)
   repeat' with_reducible first|exact r.o|refine PK.al ?_ _|refine PK.st ?_ _ (wQ _) _
  ·exact⟨Ba.flat _ ⟨8,0,⟨#[]⟩,none,0,0⟩ rfl,wQ _⟩
 have F:=Aa (p.o 5);rw[l]at F;cases t:Ae s 11
 rotate_left
 ·have x:=Aa (show Bb (f+1) d s=(.mk 4 0 (tx (tl s)) [],Il (tl s))from by
   rw[Bb,xG (fun e=>by rw[(Pn s e).2.2.2.1]at t;cases t),xG (by rw[l];decide),xH t])
  have M:=Aa (p.o 11);rw[t]at M;have ab:=Aa (fun W (J:PK w W b G (tl s))=>Cj W b G (tl s) 3 J.ps);rw[show(Ay (tl s) 3).s=tx (tl s)from by unfold Ay tx;split<;>rfl]at ab;generalize (Ay (tl s) 3).k=ah at*;generalize (Ay (tl s) 3).n=ai at*;generalize Bb (f+1) d s=q at*;generalize tx (tl s)=y at*;have am:=Qg ah ai y;clear l t p O;go_enter func193,ntmps193;go_wp2_with fail;refine(F.o _ (B.o.al _)).mono ?_;rintro _ w1 ⟨rfl,j,i⟩;have r:=Aa ((B.o.al _).call j i);have A:=Aa (i.at (wX w _) (by omega));clear j i;go_wp2_with fail;refine(M.o _ r.o).mono ?_;rintro _ w2 ⟨rfl,u,k2⟩;have C:=Aa (r.o.call u k2);have H:=Aa (k2.at A.o (by omega));clear u k2 A;go_wp2_with fail;refine(ab.o _ C.o).mono ?_;rintro _ w3 ⟨rfl,E,m⟩;have I:=Aa (show PK w w3 b G (Il (tl s))from C.o.call E m);have h:=m.at H.o (by omega);have c:=Ac h;have f:=Ak h;have V:=Ab h;clear E m h;go_wp2_with fail;rw[x.o];refine bodyPost_ret (v:=Ct ⟨6,0,y,none,0,0⟩) (by simp[results,results193,go_sem,Ct, *]) rfl ⟨⟨6,0,y,none,0,0⟩,rfl,?_,fun _=>?_⟩
  ·show PK _ _ _ _ (Il (tl s))
   repeat' with_reducible first|exact I.o|refine PK.al ?_ _|refine PK.st ?_ _ (wQ _) _
  ·exact⟨Ba.flat _ ⟨6,0,y,none,0,0⟩ rfl,wQ _⟩
 have M:=Aa (p.o 11);rw[t]at M;cases z:Ae s 12
 rotate_left
 ·have x:=Aa (show Bb (f+1) d s=(.mk 5 0 ⟨#[]⟩ (Bj f d (if 10<=d then none else tl s)).1,(Bj f d (if 10<=d then none else tl s)).2)from by
   rw[Bb,xG (fun e=>by rw[(Pn s e).2.2.2.2]at z;cases z),xG (by rw[l];decide),xG (by rw[t];decide),z];rfl)
  have N:=Aa (p.o 12);rw[z]at N;have aa:=Aa (fun W (J:PK w W b G (tl s))=>O.o W J z);rw[<-x.o]at aa;generalize Bb (f+1) d s=q at*;clear l t z p O x;go_enter func193,ntmps193;go_wp2_with fail;refine(F.o _ (B.o.al _)).mono ?_;rintro _ w1 ⟨rfl,j,i⟩;have r:=Aa ((B.o.al _).call j i);have A:=Aa (i.at (wX w _) (by omega));clear j i;go_wp2_with fail;refine(M.o _ r.o).mono ?_;rintro _ w2 ⟨rfl,u,k2⟩;have C:=Aa (r.o.call u k2);have H:=Aa (k2.at A.o (by omega));clear u k2 A;go_wp2_with fail;refine(N.o _ C.o).mono ?_;rintro _ w3 ⟨rfl,E,m⟩;have I:=Aa (C.o.call E m);have S:=Aa (m.at H.o (by omega));clear E m H;go_wp2_with fail;refine(aa.o _ I.o).mono ?_;rintro _ w4 ⟨v,rfl,L,af⟩;have h:=L.kp.at S.o (by omega);have c:=Ac h;have ag:=Ak h;have V:=Ab h;have U:=Aa (I.o.tr L);have aj:=Ab S.o;have P:=Aa af;clear L h af;unfold Ct;go_wp2;refine bodyPost_ret (v:=Ct v) (by simp[results,results193,go_sem,Ct, *]) rfl ⟨v,rfl,?_,fun e=>?_⟩
  ·repeat' with_reducible first|exact U.o|refine PK.al ?_ _|refine PK.st ?_ _ (wQ _) _
  ·refine⟨?_,(P.o e).2⟩
   refine(P.o e).1.frame (fun g T o=>World.cell?_of_block (a:=⟨g,o,none⟩) (SQ _ _ g (by have:=T.1;omega) _ _ _ _)) (fun g T=>⟨by have:=T.1;omega,by have:=T.2;simp[World.setCell];omega⟩)
 have N:=Aa (p.o 12);rw[z]at N;have P:=Aa (fun W (J:PK w W b G s)=>Ok W b G s J.ps);have x:=Aa (show(IB s=true/\Bb (f+1) d s=(SK (FA s),tl s))\/(IB s=false/\(Bb (f+1) d s).2=none)from by
  cases e:IB s
  ·right
   refine⟨rfl,?_⟩;rw[Bb,xG (by rw[e];decide),xG (by rw[l];decide),xG (by rw[t];decide),z];have Q:(if 10<=d then none else mustT s false)=none:=by split<;>rfl
   rw[Q,LV]
  ·left;exact⟨rfl,by rw[Bb,xH e]⟩)
 have ad:=Aa (show pVal s=(Bb (f+1) d s).2/\((Bb (f+1) d s).2≠none->pv (Bb (f+1) d s).1=.mk (valK s).1 (valK s).2.1 (valK s).2.2 [])from by
  rcases x.o with⟨e,Q⟩|⟨e,Q⟩
  ·obtain⟨j,u,_⟩:=Pn s e
   rw[Q];refine⟨j,fun _=>?_⟩;show pv (.mk _ _ _ [])=_;rw[pv,Mw,u]
  ·rw[Q,oR s e];exact⟨rfl,fun R=>absurd rfl R⟩)
 rw[ad.o.1]at P;generalize Bb (f+1) d s=q at*;generalize (valK s).1=X at*;generalize (valK s).2.1=Y at*;generalize (valK s).2.2=Z at*;clear l t z p O x;go_enter func193,ntmps193;go_wp2_with fail;refine(F.o _ (B.o.al _)).mono ?_;rintro _ w1 ⟨rfl,j,i⟩;have r:=Aa ((B.o.al _).call j i);have A:=Aa (i.at (wX w _) (by omega));clear j i;go_wp2_with fail;refine(M.o _ r.o).mono ?_;rintro _ w2 ⟨rfl,u,k2⟩;have C:=Aa (r.o.call u k2);have H:=Aa (k2.at A.o (by omega));clear u k2 A;go_wp2_with fail;refine(N.o _ C.o).mono ?_;rintro _ w3 ⟨rfl,E,m⟩;have I:=Aa (C.o.call E m);have S:=Aa (m.at H.o (by omega));clear E m H;go_wp2_with fail;refine(P.o _ I.o).mono ?_;rintro _ w4 ⟨rfl,L⟩;have h:=L.kp.at S.o (by omega);have c:=Ac h;have ag:=Ak h;have V:=Ab h;have U:=Aa (I.o.tr L);clear L h;go_wp2;refine bodyPost_ret (v:=Ct ⟨X,Y,Z,none,0,0⟩) (by simp[results,results193,go_sem,Ct, *]) rfl ⟨⟨X,Y,Z,none,0,0⟩,rfl,?_,fun e=>?_⟩
 ·repeat' with_reducible first|exact U.o|refine PK.al ?_ _|refine PK.st ?_ _ (wQ _) _
 ·rw[ad.o.2 e];exact⟨Ba.flat _ ⟨X,Y,Z,none,0,0⟩ rfl,wQ _⟩
attribute [local go_sem ↓] Go.wp_at_zero Go.wp_at_succ
theorem PK.gr{w c Y:World}{b G:Nat}{s:St}(a:PK w c b G s){row:Option Nat}(d:c.grownBy Y row)(e:∀k,row=some k->w.heap.size<=k):PK w Y b G s:=⟨a.ps.grown d e a.hb a.hg,a.kp.grown d e,a.hb,a.hg⟩
theorem PK.own{w a Y:World}{b G B0 size n:Nat}{s:St}{e:TypeId}{v:Value}{xs:List Value}(q:PK w a b G s)(k:Ag b a Y)(d:a.ownsRow B0 e size v n xs)(m:w.heap.size<=B0):Y.ownsRow B0 e size v n xs:=by
 refine⟨d.1,?_⟩;rcases d.2 with h|⟨g,cap,f,i,j,c,l⟩
 ·exact Or.inl h
 ·exact Or.inr ⟨g,cap,f,i,j,(k.block g (Ab c) (by have:=q.hb;omega)).trans c,l⟩
def Tv(f:Nat):Prop:=∀(d D:Nat) (s:St) (w:World) (b G:Nat),d+D=10->PS w b G s->2*ln s+1<=f->Calls prog 193 #[.pointer (some ⟨b,0,none⟩),.int .i64 D] w (Ka w b G f (Bb f d s))
theorem info157:(prog.info? 157).map (fun i=>(i.zero,i.size,i.bytes))=some (some (.agg #[.int .i64 0,.int .i64 0,.string ⟨#[]⟩,.slice none 0 0]),4,56):=by kernel_rfl
structure Jq(w:World)(B0:Nat)(vL:Value)(fs:List FV)(l:List RV)(k:Nat):Prop where
 e:fs.length=l.length
 sub:∀(i:Nat) (x:FV) (r:RV),fs[i]?=some x->l[i]?=some r->Ba w (fun g=>B0<=g/\g<w.heap.size/\vL.ownBlock≠some g) k x (pv r)
theorem Jq.far{w x:World}{B0 k:Nat}{vL:Value}{fs:List FV}{l:List RV}(c:Jq w B0 vL fs l k)(d:∀g,B0<=g->g<w.heap.size->x.heap[g]?=w.heap[g]?)(hs:w.heap.size<=x.heap.size):Jq x B0 vL fs l k:=
 ⟨c.e,fun i y r h f=>(c.sub i y r h f).frame (fun g b o=>World.cell?_of_block (a:=⟨g,o,none⟩) (d g b.1 b.2.1)) (fun _ b=>⟨b.1,xA b.2.1 hs,b.2.2⟩)⟩
theorem Jq.push{w x:World}{B0 c p k k2:Nat}{vL:Value}{fs:List FV}{l:List RV}{f:FV}{v:RV}(d:Jq w B0 vL fs l k)(C:Ba w (fun g=>B0<=g/\g<w.heap.size/\vL.ownBlock≠some g) k2 f (pv v))(z:k2<=k)
 (t:∀g,B0<=g->g<w.heap.size->vL.ownBlock≠some g->x.heap[g]?=w.heap[g]?) (D:vL.ownBlock=some c\/w.heap.size<=c) (hs:w.heap.size<=x.heap.size):Jq x B0 (.slice (some ⟨c,0,none⟩) (fs.length+1) p) (fs++[f]) (l++[v]) k:=by
 have key:∀y r m,m<=k->Ba w (fun g=>B0<=g/\g<w.heap.size/\vL.ownBlock≠some g) m y (pv r)->Ba x (fun g=>B0<=g/\g<x.heap.size/\(Value.slice (some ⟨c,0,none⟩) (fs.length+1) p).ownBlock≠some g) k y (pv r):=fun y r m A q=>
  (q.le A).frame (fun g b o=>World.cell?_of_block (a:=⟨g,o,none⟩) (t g b.1 b.2.1 b.2.2)) (fun g b=>⟨b.1,xA b.2.1 hs,fun e=>by
   have s:c=g:=xD e;rcases D with q|q
   ·exact b.2.2 (by rw[<-s];exact q)
   ·have:=b.2.1;omega⟩)
 refine⟨by simp[d.e],fun i y r j h=>?_⟩;rcases Nat.lt_or_ge i fs.length with n|n
 ·rw[xN n]at j
  rw[xN (by rw[<-d.e];exact n)]at h;exact key y r k (wQ _) (d.sub i y r j h)
 ·have u:i=fs.length:=by have:=(wU.1 j).1;simp at this;omega
  subst u;have E:y=f:=by simpa using j.symm
  have B:r=v:=by rw[d.e]at h;simpa using h.symm
  subst E B;exact key _ _ k2 z C
theorem pQ{w:World}{B n c size:Nat}{e:TypeId}{a:Option Addr}{xs:List Value}(d:w.ownsRow B e size (.slice a n c) n xs):n<=c:=by
 rcases d.2 with⟨b,h⟩|⟨g,cap,f,b,_,_,i,_⟩
 ·omega
 ·have:=(Value.slice.inj b).2.2
  omega
theorem mD(f d D:Nat)(bz:d+D=10)(a5:∀aM,aM<=f->Tv aM)(s:St)(w:World)(b G:Nat)(ab:PS w b G s)(bb:2*ln s+2<=f):
 Calls prog 237 #[.pointer (some ⟨b,0,none⟩),.int .i64 D] w (Ka w b G (f+1) (.mk 5 0 ⟨#[]⟩ (Bj f d (if 10<=d then none else s)).1,(Bj f d (if 10<=d then none else s)).2)):=by
 obtain⟨bl,bc,br,bs,bt⟩:=info_parts info157;have ap:=Aa ab.pk;have bM:=ab.lt;have bg:=ab.len;have aG:=Aa a5;have aE:=Aa (fun W (U:PK w W b G s)=>Gc W b G s U.ps);have ao:=Aa (show(if 10<=d then none else s)=none\/(if 10<=d then none else s)=s from by split<;>simp);have am:=Aa (show(D=0->(if 10<=d then none else s)=none)/\(D≠0->(if 10<=d then none else s)=s)from⟨fun e=>xH (by omega),fun e=>xG (by omega)⟩);clear ab a5;generalize (if 10<=d then none else s)=s1 at*;unfold Ka;have bH:ln s1<=801:=by rcases ao.o with e|e<;>rw[e]<;>first|exact bg|exact wZ _
 have a8:=Aa (show s1=none\/2*ln s1+2<=f from ao.o.imp (fun e=>e) (fun e=>by rw[e];exact bb));clear ao;go_enter func237,ntmps237
 go_upto_if 7 with fail
 go_cut [] (fun wc=>PK w wc b G s1/\wc.heap[w.heap.size]?=some (.cells #[.int .i64 0,.int .i64 0,.string ⟨#[]⟩,.slice none 0 0] 157 (0,0)))
 case first=>
  rcases Nat.eq_zero_or_pos D with e|e
  ·subst e
   have ar:=am.o.1 rfl;subst ar;go_wp2_with fail;refine(aE.o _ (ap.o.al _)).mono ?_;rintro _ w1 ⟨rfl,C,J⟩;go_wp2;go_meet;exact⟨(ap.o.al _).call C J,J.at (wX w _) (by omega)⟩
  ·have ar:=am.o.2 (by omega)
   subst ar;have bC:((D:Int)==0)=false:=by simp;omega
   go_wp2;go_meet;exact⟨ap.o.al _,wX w _⟩
 case rest=>
  obtain⟨J,aB⟩:=hcut;have t:=Aa J;have aK:=Aa aB;have bk:=Ab aB;have bA:=J.ps.lt;have a4:=J.kp.size;clear J aB aE;go_wp2;go_loopg [] (ln s1) (fun k wr=>∃(fs:List FV) (vL:Value) (h:St),ln h<=k/\PK w wr b G h/\wr.heap[wc.heap.size]?=some (.cells #[.int .i64 7,.int .i64 0,.string ⟨#[]⟩,vL] 157 (0,0))/\wr.heap[w.heap.size]?=some (.cells #[.int .i64 0,.int .i64 0,.string ⟨#[]⟩,.slice none 0 0] 157 (0,0))/\wr.ownsRow (wc.heap.size+1) 157 4 vL fs.length (fs.flatMap Ld)/\fs.length+ln h<=803/\wc.heap.size+1<=wr.heap.size/\((h=none/\(Bj f d s1).2=none)\/∃l j,D≠0/\Jq wr (wc.heap.size+1) vL fs l f/\2*ln h+2<=j/\j<=f/\Bj f d s1=(l++(Bj j d h).1,(Bj j d h).2)))
  case atStart=>
   refine⟨[],_,s1,wQ _,t.o.al _,wX wc _,(AJ _ _ _ bk).trans aK.o,xF _ _ _ _,by simp;omega,by simp,?_⟩;by_cases aa:s1=none
   ·exact Or.inl ⟨aa,by rw[aa,LV]⟩
   ·exact Or.inr ⟨[],f,fun e=>aa (am.o.1 e),⟨rfl,fun i x r aA _=>by simp at aA⟩,a8.o.resolve_left aa,wQ _,rfl⟩
  case round=>
   obtain⟨fs,vL,h,bK,I,ax,ay,az,bJ,bN,aY⟩:=hrel;obtain⟨aL,cL,bi⟩:=An az;subst bi;have R:=Aa I;have ai:=Aa ax;have aj:=Aa ay;have aJ:=Aa az;have K:=Aa aY;have aR:=Ab ax;have aU:=Ab ay;have F:=JA wr b G h I.ps;clear I ax ay az aY t aK;cases y:Co h
   rotate_left
   ·rw[y]at F
    have ah:=Aa (show(Bj f d s1).2=none/\Ae h 13=false from by
     rcases K.o with⟨e,Z⟩|⟨l,j,_,_,aW,_,Z⟩
     ·rw[e];exact⟨Z,IA 13 (by decide)⟩
     ·rw[Z]
      rcases bF h y with e|e
      ·rw[e];exact⟨by rw[LV],IA 13 (by decide)⟩
      ·subst e
       have:4<=j:=aW;obtain⟨m,rfl⟩:∃m,j=m+2:=⟨j-2,by omega⟩;exact⟨bZ m d,Lf 13 (by decide)⟩)
    have L:=Aa (Cj wr b G h 13 R.o.ps);rw[ah.o.2]at L;generalize (Ay h 13).k=bm at*;generalize (Ay h 13).n=bn at*;generalize (Ay h 13).s=bo at*;clear y K;go_wp2_with fail;refine F.mono ?_;rintro _ w' ⟨rfl,u⟩;have u:=u.symm;subst u;go_wp2_with fail;refine L.o.mono ?_;rintro _ w2 ⟨rfl,p,k2⟩;have aq:=Aa (show PK w w2 b G none from R.o.call p k2);have H:=k2.at ai.o (by omega);have z:=k2.at aj.o (by omega);have c:=Ac H;have c2:=Ac z;have m:=Ak z;have bd:=Ab z;have bf:=Ab H;clear p k2 H z F;go_wp2;refine bodyPost_ret (v:=Ct ⟨7,0,⟨#[]⟩,aL,fs.length,cL⟩) (by simp[results,results237,go_sem,Ct, *]) rfl ⟨⟨7,0,⟨#[]⟩,aL,fs.length,cL⟩,rfl,?_,fun e=>absurd ah.o.1 e⟩;rw[ah.o.1];repeat' with_reducible first|exact aq.o|refine PK.al ?_ _|refine PK.st ?_ _ (wQ _) _
   ·rw[y]at F
    obtain⟨l,j,ba,aO,aW,bD,V⟩:∃l j,D≠0/\Jq wr (wc.heap.size+1) (.slice aL fs.length cL) fs l f/\2*ln h+2<=j/\j<=f/\Hi (Bj f d s1=(l++(Bj j d h).1,(Bj j d h).2)):=by
     rcases K.o with⟨e,Z⟩|⟨l,j,av,C,p,aw,a9⟩
     ·rw[e]at y;cases y
     ·exact⟨l,j,av,C,p,aw,Aa a9⟩
    have a0:h≠none:=fun e=>by rw[e]at y;cases y
    have L:=Aa a0;have aC:=Aa aO;obtain⟨m,rfl⟩:∃m,j=m+1:=⟨j-1,by omega⟩;have ae:=Aa (Hg wr b G h 13 R.o.ps);clear aO a0 K y;cases M:Ae h 13
    rotate_left
    ·have P:=Aa (show Bj f d s1=(l,tl h)from by rw[V.o,Bj,xG L.o,xH M];simp)
     have aH:=Aa (fun W (U:PK w W b G h)=>Cj W b G h 13 U.ps);rw[M]at ae aH;generalize (Ay h 13).k=bm at*;generalize (Ay h 13).n=bn at*;generalize (Ay h 13).s=bo at*;clear M V;go_wp2_with fail;refine F.mono ?_;rintro _ w' ⟨rfl,u⟩;have u:=u.symm;subst u;go_wp2_with fail;refine ae.o.mono ?_;rintro _ w1 ⟨rfl,q⟩;have t:=Aa (R.o.be q);have N:=(q.block _ aR).trans ai.o;have aS:=(q.block _ aU).trans aj.o;have X:=Aa N;have ak:=Aa aS;have ag:=Aa (aC.o.far (fun g _ p=>q.block g p) q.size);have Q:=Aa (AT aJ.o q);clear q N aS;go_wp2_with fail;refine(aH.o _ t.o).mono ?_;rintro _ w2 ⟨rfl,p,k2⟩;have aq:=Aa (show PK w w2 b G (tl h)from t.o.call p k2);have H:=k2.at X.o (by omega);have z:=k2.at ak.o (by omega);have c:=Ac H;have c2:=Ac z;have m:=Ak z;have bd:=Ab z;have bf:=Ab H;have aD:=Aa (ag.o.far (x:=w2) (fun g C p=>k2.block g p (by omega)) k2.size);have aI:=Aa (t.o.own k2 Q.o (by omega));clear p k2 H z F;go_wp2;refine bodyPost_ret (v:=Ct ⟨7,0,⟨#[]⟩,aL,fs.length,cL⟩) (by simp[results,results237,go_sem,Ct, *]) rfl ⟨⟨7,0,⟨#[]⟩,aL,fs.length,cL⟩,rfl,?_,fun e=>?_⟩
     ·rw[P.o]
      show PK _ _ _ _ (tl h);repeat' with_reducible first|exact aq.o|refine PK.al ?_ _|refine PK.st ?_ _ (wQ _) _
     ·rw[P.o,pv,Kt]
      refine⟨?_,pQ aI.o⟩;exact mE (sh:=7) (B0:=wc.heap.size+1) aI.o (by rw[aD.o.e,xT]) (fun i x r aA a2=>by
       rw[xI]at a2;obtain⟨bp,av,rfl⟩:=yC.1 a2;exact aD.o.sub i x bp aA av) (by omega) (fun g bE o=>World.cell?_of_block (a:=⟨g,o,none⟩) (SQ _ _ g (show g≠w.heap.size from by omega) _ _ _ _)) (by simp[World.setCell])
    ·rw[M]at ae
     obtain⟨E,aQ⟩:∃E:Nat,D=E+1:=⟨D-1,by omega⟩;have bP:IntKind.i64.wrap ((D:Int)-1)=(E:Int):=by rw[wrap_small _ (by omega) (by omega)];omega
     have aF:=Aa (fun W (U:PS W b G h)=>aG.o m (by omega) (d+1) E h W b G (by omega) U (by omega));have aZ:=Wd (m-1) (d+1) h L.o;rw[show m-1+1=m from by omega]at aZ;have P:=Aa (show Bj f d s1=((l++[(Bb m (d+1) h).1])++(Bj m d (Bb m (d+1) h).2).1,(Bj m d (Bb m (d+1) h).2).2)from by rw[V.o,Bj,xG L.o,xG (by rw[M];decide)];simp);have bu:=Aa aQ;clear aQ;unfold Ka at aF;generalize (Bb m (d+1) h).1=bq at*;generalize (Bb m (d+1) h).2=A at*;clear M V aG;go_wp2_with fail;refine F.mono ?_;rintro _ w' ⟨rfl,u⟩;have u:=u.symm;subst u;go_wp2_with fail;refine ae.o.mono ?_;rintro _ w1 ⟨rfl,q⟩;have t:=Aa (R.o.be q);have N:=(q.block _ aR).trans ai.o;have c1:=Ac N;have X:=Aa N;have ak:=Aa ((q.block _ aU).trans aj.o);have ag:=Aa (aC.o.far (fun g _ p=>q.block g p) q.size);have Q:=Aa (AT aJ.o q);have bO:=q.size;clear q N;have bI:=Ab X.o;have bB:=t.o.hb;have bL:ln A<ln h:=aZ;go_wp2;go_region_law (first
      |(refine step_append_lies _ (by rfl) _ _ _ (by rfl) (wc.heap.size+1) 157 bl _ 4 56 underlying155 bc br bs bt rfl (by decide) _ _ _ (by rfl) (T.alloc _) ⟨w6.heap.size,0,none⟩ 1 1 [.int .i64 v.sh,.int .i64 v.n,.string v.s,.slice v.la v.ln v.lc] (by rfl) (by rfl) (Cz _ _ _ _ (by simp)) (pK rfl rfl rfl rfl) (by decide) (by unfold maxLen;omega) (by omega) (by simp;omega) (w6.heap.size+1) (by simp) ?_;intro g cap w7 a1 O aV bG;have S:=KS T O (Nat.lt_succ_self _) ad;have bw:=Ac S;have bx:=Ak S;have bR:=Ab S)
      |(go_simp;go_at_call 193;refine(aF.o _ ?_).mono ?_;(first|exact t.o.dr.ps|exact t.o.ps);rintro _ w6 ⟨v,rfl,B,a3⟩;unfold Ct;have ad:=B.kp.at X.o (by omega);have bv:=Ac ad;have T:=(by first|exact t.o.own B.kp Q.o (by omega)|exact t.o.dr.own B.kp Q.o (by omega));have bQ:=Ab ad))
     all_goals(
      have af:Ag b w1 w6:=(by first|exact B.kp|exact(Ag.refl _ _).drew.trans B.kp);have a7:PK w w6 b G A:=(by first|exact t.o.tr B|exact t.o.dr.tr B);have aT:=af.at ak.o (by omega);have aP:=ag.o.far (x:=w6) (fun g C p=>af.block g p (by omega)) af.size;have bj:=O.size;simp at bj;have bh:∀k,(Value.slice aL fs.length cL).ownBlock=some k->k<w1.heap.size:=fun k I=>Ln Q.o k I;have Y:=Aa (xZ (PK.st ((a7.al _).gr O (fun k I=>wV (Nat.le_succ_of_le a4) (T.lt k I).1)) ⟨wc.heap.size,3,none⟩ a4 (.slice (some ⟨g,0,none⟩) (fs.length+1) cap)) (xZ (AI S 3 (.slice (some ⟨g,0,none⟩) (fs.length+1) cap)) (xZ (LM T O (show w.heap.size<wc.heap.size+1 by omega) aT (show w.heap.size≠wc.heap.size by omega) 3 (.slice (some ⟨g,0,none⟩) (fs.length+1) cap)) (IE a1 (Nat.lt_succ_self _) 3 (.slice (some ⟨g,0,none⟩) (fs.length+1) cap)))));have K:=Aa (show(A=none/\(Bj f d s1).2=none)\/∃a6 j,D≠0/\Jq (w7.setCell ⟨wc.heap.size,3,none⟩ (.slice (some ⟨g,0,none⟩) (fs.length+1) cap)) (wc.heap.size+1) (.slice (some ⟨g,0,none⟩) (fs.length+1) cap) (fs++[v]) a6 f/\2*ln A+2<=j/\j<=f/\Bj f d s1=(a6++(Bj j d A).1,(Bj j d A).2)from by
       by_cases au:A=none
       ·left
        exact⟨au,by rw[P.o,au,LV]⟩
       ·right
        refine⟨l++[bq],m,ba,aP.push (k2:=m) ((a3 au).1.frame (fun _ _ _=>rfl) (fun aN aX=>?_)) (by omega) (fun k C p aw=>(xC _ _ _ _ (show k≠wc.heap.size by omega)).trans ((O.block k (by simp;omega) (fun e=>aw e.symm)).trans (AJ _ _ _ p))) (aV.imp (fun e=>e) (fun e=>by omega)) (by simp[World.setCell];omega),by omega,by omega,P.o⟩;have C:w1.heap.size<=aN:=aX.1;exact⟨by omega,aX.2,fun e=>by have:=bh aN e;omega⟩)
      clear O a1 T ad aT a7 S aP B af a3 aV;go_wp2;go_roundg (ln A)
      case measure=>omega
      case rel=>exact⟨fs++[v],_,A,wQ _,Y.o.1,Y.o.2.1,Y.o.2.2.1,by rw[xJ,List.flatMap_append];exact Y.o.2.2.2,by simp;omega,by simp[World.setCell];omega,K.o⟩)
end Go.Proofs.YtogdodlibkckkaaGreatDoor
