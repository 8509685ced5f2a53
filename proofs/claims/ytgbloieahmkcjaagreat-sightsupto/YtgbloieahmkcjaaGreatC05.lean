import Derived.Test.YtgbloieahmkcjaaGreatC02
import Derived.Deep.QuietTactic
import Derived.BigQuiet
namespace Go.Proofs.YtgbloieahmkcjaaGreat
set_option maxHeartbeats 20000000
set_option maxRecDepth 100000
open Go.RowKit Tryz
theorem uK(w:World)(o:Obj)(n:Nat)(x y z:Value):Lt w (((((w.alloc o).drewN n).setCell ⟨w.heap.size,0,none⟩ x).setCell ⟨w.heap.size,1,none⟩ y).setCell ⟨w.heap.size,2,none⟩ z):=
 (((below_drewN ((KL _ _).alloc (KK _) _) _).setCell (KK _) _).setCell (KK _) _).setCell (KK _) _
theorem F7(f:Tk->List Value)(hf:∀t,(f t).length=3):∀(ts:List Tk) (a:Nat) (t:Tk) (j:Nat),ts[a]?=some t->j<3->(ts.flatMap f)[a*3+j]?=(f t)[j]?
 |[],a,t,j,h,_=>by simp at h
 |x::ts,0,t,j,h,hj=>by
  simp at h;subst h;rw[List.flatMap_cons,Lf (by rw[hf];omega)];simp
 |x::ts,a+1,t,j,h,hj=>by
  rw[List.flatMap_cons,Lg (by rw[hf];omega),hf];rw[show(a+1)*3+j-3=a*3+j by omega];exact F7 f hf ts a t j (by simpa using h) hj
theorem xp(w:World)(b:Nat)(hb:b<w.heap.size)
 (c2:w.cell? ⟨b,2,none⟩=some (.bool true)):
 Calls prog 69 #[.pointer (some ⟨b,0,none⟩)] w fun e w'=>e=.returned (.agg #[.int .i64 0,.string ⟨#[]⟩,.int .i64 0])/\Lt w w':=by
 go_enter func69,ntmps69;go_wp2_with fail;go_quiet (fail);go_wp2_with fail;exact bodyPost_ret (v:=.agg #[.int .i64 0,.string ⟨#[]⟩,.int .i64 0]) (by simp[results,results69,go_sem]) rfl ⟨rfl,uK _ _ _ _ _ _⟩
def jh(s:St)(kk:Nat)(x:Ls):Bool:=decide (rk (hd s).k=kk)&&decide (rs (hd s)=x)
theorem bY(y x:Ls):(y.toList==x.toList)=decide (y=x):=by
 rw[Lib.toList_data,Lib.toList_data,Bool.eq_iff_iff];simp only[beq_iff_eq,Lc];constructor
 ·intro h;exact ByteArray.ext (Array.toList_inj.1 h)
 ·intro h;rw[h]
theorem KD(s:St)(kk:Nat)(x:Ls)(hk:kk≠0)(h:jh s kk x=true):af s 0=false:=by
 unfold jh at h;simp only[Li,Lc]at h;unfold af;rw[beq_eq_false_iff_ne];intro e;rw[e]at h;exact hk h.1.symm
theorem mW(k:Nat):(rk k=1)↔k=1:=by
 unfold rk;split<;>omega
def ff(w:World)(v:Value)(l:List Tk):Prop:=(v=.slice none 0 0/\l=[])\/∃g off cap cur,v=.slice (some ⟨g,off,none⟩) l.length cap/\w.heap[g]?=some (.cells cur 137 (0,0))/\(cur.toList.drop off).take (l.length*3)=eF l
theorem ff.keep{w w':World}{b:Nat}{v:Value}{l:List Tk}{cs:Array Value}{T:TypeId}{fr:Nat×Nat}(h:ff w v l)(hk:ai b w w')(hb:w.heap[b]?=some (.cells cs T fr))(hT:T≠137):ff w' v l:=by
 rcases h with h|⟨g,off,cap,cur,h1,h2,h3⟩
 ·exact Or.inl h
 ·refine Or.inr ⟨g,off,cap,cur,h1,?_,h3⟩
  rw[hk.block g (ag h2) (fun e=>by subst e;rw[hb]at h2;cases h2;exact hT rfl)];exact h2
theorem ff.below{w w':World}{v:Value}{l:List Tk}(h:ff w v l)(hb:Lt w w'):ff w' v l:=by
 rcases h with h|⟨g,off,cap,cur,h1,h2,h3⟩
 ·exact Or.inl h
 ·exact Or.inr ⟨g,off,cap,cur,h1,by rw[hb.block g (ag h2)];exact h2,h3⟩
theorem ff.slice{w:World}{v:Value}{l:List Tk}(h:ff w v l):∃a cap,v=.slice a l.length cap:=by
 rcases h with⟨h,rfl⟩|⟨g,off,cap,cur,h1,_⟩
 ·exact⟨none,0,h⟩
 ·exact⟨_,_,h1⟩
theorem u9:∀(l:List Tk) (i j:Nat) (t:Tk),l[i]?=some t->j<3->(eF l)[i*3+j]?=(kP t)[j]?
 |[],i,j,t,h,_=>by simp at h
 |x::l,0,j,t,h,hj=>by
  simp at h;subst h;show(kP x++eF l)[0*3+j]?=_;rw[Lf (by simp[kP];omega)];congr 1;omega
 |x::l,i+1,j,t,h,hj=>by
  show(kP x++eF l)[(i+1)*3+j]?=_;rw[Lg (by simp[kP];omega)];have:=u9 l i j t (by simpa using h) hj;rw[<-this];congr 1;simp[kP];omega
structure RG(w:World)(b:Nat)(L:Value)(ts:List Tk)(R:List Value)(T:TypeId)(s:St):Prop where
 st:∃at_ bad,w.heap[b]?=some (.cells (L::.int .i64 (at_:Nat)::.bool bad::.int .i64 0::R).toArray T (0,0))/\at_<=ts.length/\s=(if bad=true then none else some (ts.drop at_))
 row:ff w L ts
 len:ts.length<=801
 wf:∀t∈ts,io t
 ty:T≠137
section
variable {w w':World} {b:Nat} {L:Value} {ts:List Tk} {R:List Value} {T:TypeId} {s s0:St}
theorem RG.lt(h:RG w b L ts R T s):b<w.heap.size:=by
 obtain⟨a,bad,h1,_⟩:=h.st;exact ag h1
theorem RG.below(h:RG w b L ts R T s)(hb:Lt w w'):RG w' b L ts R T s:=by
 obtain⟨a,bad,h1,h2,h3⟩:=h.st;exact⟨⟨a,bad,by rw[hb.block b (ag h1)];exact h1,h2,h3⟩,h.row.below hb,h.len,h.wf,h.ty⟩
theorem RG.move{X Y:World}(hX:RG X b L ts R T s)(h0:RG w b L ts R T s0)(hk:ai b w Y)(hb:Y.heap[b]?=X.heap[b]?):RG Y b L ts R T s:=by
 obtain⟨a,bad,h1,h2,h3⟩:=hX.st;obtain⟨a',bad',h1',_⟩:=h0.st;exact⟨⟨a,bad,by rw[hb];exact h1,h2,h3⟩,h0.row.keep hk h1' h0.ty,h0.len,h0.wf,h0.ty⟩
theorem RG.fin{X Y:World}{s1:St}(hX:RG X b L ts R T s1)(h0:RG w b L ts R T s0)(hs:s=s1)(hk:ai b w Y)(hb:Y.heap[b]?=X.heap[b]?):RG Y b L ts R T s/\ai b w Y:=by
 subst hs;exact⟨hX.move h0 hk hb,hk⟩
theorem RG.hdok(h:RG w b L ts R T s):hd s=ib\/io (hd s):=by
 obtain⟨a,bad,h1,h2,h3⟩:=h.st;cases bad with
 |true=>rw[h3];exact Or.inl rfl
 |false=>
  rw[h3];simp only[Lj,if_false];cases hx:ts.drop a with
  |nil=>exact Or.inl rfl
  |cons t l=>exact Or.inr (h.wf t (List.mem_of_mem_drop (i:=a) (by rw[hx];simp)))
theorem RG.lnle(h:RG w b L ts R T s):ln s<=802:=by
 obtain⟨a,bad,h1,h2,h3⟩:=h.st;have:=h.len;rw[h3];cases bad<;>simp[ln]<;>omega
theorem RG.next(h:RG w b L ts R T s)(hk:af s 0=false):∃a:Nat,w.cell? ⟨b,1,none⟩=some (.int .i64 a)/\w.frozen? ⟨b,1,none⟩=false/\a<=801/\RG (w.setCell ⟨b,1,none⟩ (.int .i64 ((a:Int)+1))) b L ts R T (tl s):=by
 obtain⟨a,bad,h1,h2,h3⟩:=h.st;have hl:=h.len;cases bad with
 |true=>rw[h3]at hk;simp[af,hd,ib]at hk
 |false=>
  simp only[Lj,if_false]at h3;have ha:a<ts.length:=by
   rcases Nat.lt_or_ge a ts.length with x|x
   ·exact x
   ·rw[h3,Lp x]at hk;simp[af,hd,ib]at hk
  refine⟨a,by rw[ae h1];simp,ar h1 1,by omega,⟨⟨a+1,false,?_,by omega,?_⟩,?_,hl,h.wf,h.ty⟩⟩
  ·rw[aJ h1];simp
  ·rw[h3,Lq ha];simp[tl]
  ·exact h.row.keep ((ai.refl b w).setCell 1 _) h1 h.ty
theorem RG.fail(h:RG w b L ts R T s):(∃q,w.cell? ⟨b,2,none⟩=some (.bool q))/\w.frozen? ⟨b,2,none⟩=false/\RG (w.setCell ⟨b,2,none⟩ (.bool true)) b L ts R T none:=by
 obtain⟨a,bad,h1,h2,h3⟩:=h.st;refine⟨⟨bad,by rw[ae h1];simp⟩,ar h1 2,⟨⟨a,true,?_,h2,by simp⟩,?_,h.len,h.wf,h.ty⟩⟩
 ·rw[aJ h1];simp
 ·exact h.row.keep ((ai.refl b w).setCell 2 _) h1 h.ty
theorem RG.rest(h:RG w b L ts R T s)(i:Nat):w.cell? ⟨b,i+4,none⟩=R[i]?:=by
 obtain⟨a,bad,h1,_⟩:=h.st;rw[ae h1];simp
theorem ff.at3{a:Option Addr}{cap i:Nat}{l:List Tk}{t:Tk}(h:ff w (.slice a l.length cap) l)(hi:l[i]?=some t):∃g off,a=some ⟨g,off,none⟩/\g<w.heap.size/\∀j,j<3->w.cell? ⟨g,off+i*3+j,none⟩=(kP t)[j]?:=by
 rcases h with⟨_,e⟩|⟨g,off,LM,cur,h1,h2,h3⟩
 ·rw[e]at hi;simp at hi
 ·cases h1
  have hil:=(KO.1 hi).1;refine⟨g,off,rfl,ag h2,fun j hj=>?_⟩;rw[ae h2,<-u9 l i j t hi hj,<-h3,List.getElem?_take_of_lt (by omega),List.getElem?_drop,Array.getElem?_toList];congr 1;omega
theorem JT(w:World)(b:Nat)(A:Option Addr)(n cap a:Nat)(hb:b<w.heap.size)(_hn:n<=801)(ha:n<=a)(_ha2:a<=801)
 (c0:w.cell? ⟨b,0,none⟩=some (.slice A n cap)) (c1:w.cell? ⟨b,1,none⟩=some (.int .i64 a)) (c2:w.cell? ⟨b,2,none⟩=some (.bool false)):
 Calls prog 69 #[.pointer (some ⟨b,0,none⟩)] w fun e w'=>e=.returned (.agg #[.int .i64 0,.string ⟨#[]⟩,.int .i64 0])/\Lt w w':=by
 have hd:decide ((n:Int)<=a)=true:=by simp;omega
 go_enter func69,ntmps69;go_wp2_with fail;go_quiet (fail);go_wp2_with fail;exact bodyPost_ret (v:=.agg #[.int .i64 0,.string ⟨#[]⟩,.int .i64 0]) (by simp[results,results69,go_sem]) rfl ⟨rfl,uK _ _ _ _ _ _⟩
theorem Dw(w:World)(b:Nat)(g off:Nat)(n cap a:Nat)(x:Int)(y:Ls)(z:Int)(hb:b<w.heap.size)(hg:g<w.heap.size)(_hn:n<=801)(ha:a<n)
 (c0:w.cell? ⟨b,0,none⟩=some (.slice (some ⟨g,off,none⟩) n cap)) (c1:w.cell? ⟨b,1,none⟩=some (.int .i64 a)) (c2:w.cell? ⟨b,2,none⟩=some (.bool false))
 (t0:w.cell? ⟨g,off+a*3,none⟩=some (.int .i64 x)) (t1:w.cell? ⟨g,off+a*3+1,none⟩=some (.string y)) (t2:w.cell? ⟨g,off+a*3+2,none⟩=some (.int .i64 z)):
 Calls prog 69 #[.pointer (some ⟨b,0,none⟩)] w fun e w'=>e=.returned (.agg #[.int .i64 x,.string y,.int .i64 z])/\Lt w w':=by
 have hd:decide ((n:Int)<=a)=false:=by simp;omega
 go_enter func69,ntmps69;go_wp2_with fail;go_quiet (fail);go_wp2_with fail;go_region;all_goals(try go_wp2)
 all_goals(refine bodyPost_ret (v:=.agg #[.int .i64 x,.string y,.int .i64 z]) (by simp[results,results69,go_sem]) rfl ⟨rfl,?_⟩)
 exact uK _ _ _ _ _ _
theorem tG(h:RG w b L ts R T s):
 Calls prog 69 #[.pointer (some ⟨b,0,none⟩)] w fun e w'=>e=.returned (.agg #[.int .i64 (rk (hd s).k:Nat),.string (rs (hd s)),.int .i64 (hd s).n])/\Lt w w':=by
 obtain⟨a,bad,h1,h2,h3⟩:=h.st;have hb:=ag h1;have c0:w.cell? ⟨b,0,none⟩=some L:=by rw[ae h1];simp
 have c1:w.cell? ⟨b,1,none⟩=some (.int .i64 a):=by rw[ae h1];simp
 have c2:w.cell? ⟨b,2,none⟩=some (.bool bad):=by rw[ae h1];simp
 have hl:=h.len;obtain⟨A,cap,hL⟩:=h.row.slice;subst hL;cases bad with
 |true=>rw[h3];exact xp w b hb c2
 |false=>
  simp only[Lj,if_false]at h3;by_cases ha:a<ts.length
  ·have hx:ts[a]?=some ts[a]:=KM ha
   have hd':hd s=ts[a]:=by rw[h3,Lq ha];rfl
   obtain⟨g,off,rfl,hg,q⟩:=h.row.at3 hx;rw[hd'];exact Dw w b g off ts.length cap a _ _ _ hb hg hl ha c0 c1 c2 (q 0 (by omega)) (q 1 (by omega)) (q 2 (by omega))
  ·have hd':hd s=ib:=by rw[h3,Lp (by omega)];rfl
   rw[hd'];exact JT w b A ts.length cap a hb hl (by omega) (by omega) c0 c1 c2
theorem xK(kk:Nat)(x:Ls)(h:RG w b L ts R T s):
 Calls prog 106 #[.pointer (some ⟨b,0,none⟩),.int .i64 kk,.string x] w fun e w'=>e=.returned (.bool (jh s kk x))/\Lt w w':=by
 generalize hq:jh s kk x=q;have HQ:=aa hq;clear hq;have hp:=tG h;unfold jh at HQ;generalize rk (hd s).k=k1 at*;generalize rs (hd s)=y at*;generalize (hd s).n=n at*;go_enter func106,ntmps106;go_wp2_with fail;refine hp.mono ?_;clear hp;rintro e w1 ⟨rfl,hb1⟩;go_wp2_with fail;all_goals go_ret
 ·exact⟨am (by rw[<-HQ.o,bY];have:(k1:Int)=kk:=(by assumption);have e:k1=kk:=(by omega);simp[e]),hb1.alloc hb1.size _⟩
 ·exact⟨am (by rw[<-HQ.o];have:¬(k1:Int)=kk:=(by assumption);have e:¬k1=kk:=(by omega);simp[e]),hb1.alloc hb1.size _⟩
theorem rY(kk:Nat)(x:Ls)(h:RG w b L ts R T s)(hk:kk≠0):
 Calls prog 67 #[.pointer (some ⟨b,0,none⟩),.int .i64 kk,.string x] w fun e w'=>e=.returned (.bool (jh s kk x))/\RG w' b L ts R T (ec s (jh s kk x))/\ai b w w':=by
 have hi:=xK kk x h;have H:=aa h;have HP:=aa (KD s kk x hk);clear h hk;cases hx:jh s kk x<;>rw[hx]at hi HP<;>clear hx<;>go_enter func67,ntmps67<;>(go_wp2_with fail)<;>refine hi.mono ?_<;>clear hi<;>rintro e w1 ⟨rfl,hb1⟩
 ·go_wp2_with fail
  go_ret;exact⟨rfl,H.o.below hb1,ai.of_below hb1⟩
 ·obtain⟨a,c1,f1,ha,hn⟩:=(H.o.below hb1).next (HP.o (by simp))
  have HN:=aa hn;clear hn;go_wp2_with fail;go_ret;exact⟨rfl,HN.o,(ai.of_below hb1).setCell 1 _⟩
theorem CI(kk:Nat)(x:Ls)(h:RG w b L ts R T s)(hk:kk≠0):
 Calls prog 70 #[.pointer (some ⟨b,0,none⟩),.int .i64 kk,.string x] w fun e w'=>e=.returned (.tuple #[])/\RG w' b L ts R T (ak s (jh s kk x))/\ai b w w':=by
 have hi:=rY kk x h hk;clear h hk;cases hx:jh s kk x<;>rw[hx]at hi<;>clear hx<;>go_enter func70,ntmps70<;>(go_wp2_with fail)<;>refine hi.mono ?_<;>clear hi<;>rintro e w1 ⟨rfl,hr1,hk1⟩
 ·obtain⟨⟨q,c2⟩,f2,hn⟩:=hr1.fail
  have HN:=aa hn;clear hn hr1;go_wp2_with fail;go_end0;exact⟨rfl,HN.o,hk1.setCell 2 _⟩
 ·go_wp2_with fail
  go_end0;exact⟨rfl,hr1,hk1⟩
theorem Bu(h:RG w b L ts R T s):
 Calls prog 66 #[.pointer (some ⟨b,0,none⟩),.int .i64 1] w fun e w'=>(∃k n,e=.returned (.agg #[.int .i64 k,.string (nm s),.int .i64 n]))/\RG w' b L ts R T (ab s)/\ai b w w':=by
 have hlt:=h.lt;have hp:=tG (h.below ((KL _ _).alloc (KK _) dq));have H0:=aa h;have HE:=aa (show nm s=if rk (hd s).k=1 then rs (hd s)else⟨#[]⟩from by
  unfold nm af rs rk;by_cases e:(hd s).k=1<;>simp[e];intro q;split at q<;>omega)
 have HT:=aa (show ab s=if rk (hd s).k=1 then tl s else none from by
  unfold ab af rk;by_cases e:(hd s).k=1<;>simp[e];intro q;split at q<;>omega)
 have HP:=aa (show rk (hd s).k=1->af s 0=false from fun e=>by rw[mW]at e;simp[af,e]);clear h;generalize rk (hd s).k=k1 at*;generalize rs (hd s)=y at*;generalize (hd s).n=n at*;generalize nm s=y1 at*;by_cases h1:k1=1
 all_goals
  go_enter func66,ntmps66;go_wp2_with fail;refine hp.mono ?_;clear hp;rintro e w1 ⟨rfl,hb1⟩;have hR:=(hb1.block _ (by simp)).trans (KS w dq);have c:=ae hR;have f:=ar hR;have hs1:=ag hR;have hB:=((KL w.heap.size w).alloc (KK _) dq).trans (hb1.mono (by simp));have hbl:b<w1.heap.size:=by omega
  have H1:=aa (H0.o.below hB);have hK0:=aa (ai.of_below (b:=b) hB);clear hb1 hB hR
 ·subst h1
  obtain⟨a,c1,f1,ha,hn⟩:=H1.o.next (HP.o rfl);have HN:=aa hn;clear hn;go_wp2_with fail;refine bodyPost_ret (v:=.agg #[.int .i64 1,.string y,.int .i64 n]) (by simp[results,results66,go_sem,c,hs1]) rfl ⟨⟨1,n,by simp[HE.o]⟩,?_⟩;refine HN.o.fin H0.o (by simp[HT.o]) ?_ ?_
  ·repeat' first|exact hK0.o|refine ai.alloc ?_ _|refine ai.setCell ?_ _ _|refine ai.setNew ?_ _ (KK _) _
  ·exact(bp _ _ _ (by simpa using hbl)).trans (lV _ _ _ (by omega) _ _ _)
 ·have e:(((k1:Nat):Int)!=1)=true:=by simp;omega
  obtain⟨⟨q,c2⟩,f2,hn⟩:=H1.o.fail;have HN:=aa hn;have H1n:=aa h1;clear hn h1;go_wp2_with fail;refine bodyPost_ret (v:=.agg #[.int .i64 0,.string ⟨#[]⟩,.int .i64 0]) (by simp[results,results66,go_sem,c,hs1]) rfl ⟨⟨0,0,by rw[HE.o,K8 H1n.o]⟩,?_⟩;refine HN.o.fin H0.o (by rw[HT.o,K8 H1n.o]) ?_ ?_
  ·repeat' first|exact hK0.o|refine ai.alloc ?_ _|refine ai.setCell ?_ _ _|refine ai.setNew ?_ _ (KK _) _
  ·exact(bp _ _ _ (by simpa using hbl)).trans (lV _ _ _ (by omega) _ _ _)
theorem uu(h:RG w b L ts R T s):
 Calls prog 34 #[.pointer (some ⟨b,0,none⟩)] w fun e w'=>e=.returned (.string (nm s))/\RG w' b L ts R T (ab s)/\ai b w w':=by
 have hp:=Bu h;clear h;generalize nm s=y at*;go_enter func34,ntmps34;go_wp2_with fail;refine hp.mono ?_;clear hp;rintro e w1 ⟨⟨k,n,rfl⟩,hr1,hk1⟩;go_wp2_with fail;go_ret;exact⟨rfl,hr1.below ((KL _ _).alloc (KK _) _),hk1.alloc _⟩
end
theorem RS.G{w:World}{b:Nat}{L:Value}{ts:List Tk}{s:St}(h:RS w b L ts s):RG w b L ts [] 89 s:=by
 refine⟨h.st,?_,Nat.le_succ_of_le h.len,h.wf,by decide⟩;rcases h.row.2 with⟨hv,h0⟩|⟨g,cap,cur,hv,_,hg,_,_,_,ht⟩
 ·exact Or.inl ⟨hv,KZ h0⟩
 ·exact Or.inr ⟨g,0,cap,cur,hv,hg,by rw[List.drop_zero];exact ht⟩
theorem RG.S{w w':World}{b:Nat}{L:Value}{ts:List Tk}{s s':St}(g:RG w' b L ts [] 89 s')(h:RS w b L ts s)(hk:ai b w w'):RS w' b L ts s':=by
 obtain⟨a,bad,h1,_⟩:=h.st;exact⟨g.st,gW h.row hk h1 (by decide),h.len,h.wf⟩
theorem RS.next{w:World}{b:Nat}{L:Value}{ts:List Tk}{s:St}(h:RS w b L ts s)(hk:af s 0=false):∃a:Nat,w.cell? ⟨b,1,none⟩=some (.int .i64 a)/\w.frozen? ⟨b,1,none⟩=false/\a<=801/\RS (w.setCell ⟨b,1,none⟩ (.int .i64 ((a:Int)+1))) b L ts (tl s):=by
 obtain⟨a,h1,h2,h3,h4⟩:=h.G.next hk;exact⟨a,h1,h2,h3,h4.S h ((ai.refl b w).setCell 1 _)⟩
theorem RS.fail{w:World}{b:Nat}{L:Value}{ts:List Tk}{s:St}(h:RS w b L ts s):(∃q,w.cell? ⟨b,2,none⟩=some (.bool q))/\w.frozen? ⟨b,2,none⟩=false/\RS (w.setCell ⟨b,2,none⟩ (.bool true)) b L ts none:=
 ⟨h.G.fail.1,h.G.fail.2.1,h.G.fail.2.2.S h ((ai.refl b w).setCell 2 _)⟩
theorem vZ(w:World)(b:Nat)(L:Value)(ts:List Tk)(s:St)(h:RS w b L ts s):
 Calls prog 69 #[.pointer (some ⟨b,0,none⟩)] w fun e w'=>e=.returned (.agg #[.int .i64 (rk (hd s).k:Nat),.string (rs (hd s)),.int .i64 (hd s).n])/\Lt w w':=tG h.G
theorem KI(w:World)(b:Nat)(L:Value)(ts:List Tk)(s:St)(kk:Nat)(x:Ls)(h:RS w b L ts s):
 Calls prog 106 #[.pointer (some ⟨b,0,none⟩),.int .i64 kk,.string x] w fun e w'=>e=.returned (.bool (jh s kk x))/\Lt w w':=xK kk x h.G
theorem CF(w:World)(b:Nat)(L:Value)(ts:List Tk)(s:St)(kk:Nat)(x:Ls)(h:RS w b L ts s)(hk:kk≠0):
 Calls prog 67 #[.pointer (some ⟨b,0,none⟩),.int .i64 kk,.string x] w fun e w'=>e=.returned (.bool (jh s kk x))/\RS w' b L ts (ec s (jh s kk x))/\ai b w w':=(rY kk x h.G hk).mono fun _ _ ⟨e,g,k⟩=>⟨e,g.S h k,k⟩
theorem xL(w:World)(b:Nat)(L:Value)(ts:List Tk)(s:St)(kk:Nat)(x:Ls)(h:RS w b L ts s)(hk:kk≠0):
 Calls prog 70 #[.pointer (some ⟨b,0,none⟩),.int .i64 kk,.string x] w fun e w'=>e=.returned (.tuple #[])/\RS w' b L ts (ak s (jh s kk x))/\ai b w w':=(CI kk x h.G hk).mono fun _ _ ⟨e,g,k⟩=>⟨e,g.S h k,k⟩
theorem KG(w:World)(b:Nat)(L:Value)(ts:List Tk)(s:St)(h:RS w b L ts s):
 Calls prog 66 #[.pointer (some ⟨b,0,none⟩),.int .i64 1] w fun e w'=>(∃k n,e=.returned (.agg #[.int .i64 k,.string (nm s),.int .i64 n]))/\RS w' b L ts (ab s)/\ai b w w':=(Bu h.G).mono fun _ _ ⟨e,g,k⟩=>⟨e,g.S h k,k⟩
theorem iX(w:World)(b:Nat)(L:Value)(ts:List Tk)(s:St)(h:RS w b L ts s):
 Calls prog 34 #[.pointer (some ⟨b,0,none⟩)] w fun e w'=>e=.returned (.string (nm s))/\RS w' b L ts (ab s)/\ai b w w':=(uu h.G).mono fun _ _ ⟨e,g,k⟩=>⟨e,g.S h k,k⟩
def oi(K:Nat):Ls:=aE [dB.data.toList.getD (K-5) 0]
theorem E6(k K:Nat)(h1:5<=k)(h2:k<=17)(h3:5<=K)(h4:K<=17)(h:dB.data.toList.getD (k-5) 0=dB.data.toList.getD (K-5) 0):k=K:=by
 have key:∀i j:Fin 13,dB.data.toList.getD i.val 0=dB.data.toList.getD j.val 0->i=j:=by decide+kernel
 have:=key ⟨k-5,by omega⟩ ⟨K-5,by omega⟩ h;have:=congrArg Fin.val this;simp only at this;omega
theorem sm(s:St)(K:Nat)(h3:5<=K)(h4:K<=17)(hok:hd s=ib\/io (hd s)):jh s 4 (oi K)=af s K:=by
 unfold jh af;rcases hok with e|⟨a,b,_⟩
 ·rw[e];simp[ib,rk];omega
 ·by_cases hk:(hd s).k<=3
  ·have:rk (hd s).k=(hd s).k:=by unfold rk;rw[K9 hk]
   rw[this];rw[KT (by omega),Bool.false_and];symm;rw[beq_eq_false_iff_ne];omega
  ·have e1:rk (hd s).k=4:=by unfold rk;rw[K8 hk]
   rw[e1,Le rfl,Bool.true_and];by_cases h5:(hd s).k=4
   ·have e2:rs (hd s)=⟨#[46,46,46]⟩:=by unfold rs;rw[K8 hk,K9 h5]
    rw[e2,h5];rw[KT (by intro e;have:=congrArg ByteArray.size e;rw[show(oi K).size=1 from rfl]at this;exact absurd this (by decide))];symm;rw[beq_eq_false_iff_ne];omega
   ·have e2:rs (hd s)=oi (hd s).k:=by unfold rs;rw[K8 hk,K8 h5];rfl
    rw[e2];by_cases e:(hd s).k=K
    ·rw[e];simp
    ·rw[KT]
     ·symm;rw[beq_eq_false_iff_ne];exact e
     ·intro x
      have:=congrArg (fun b:Ls=>b.data.toList) x;simp only[oi,aE]at this;exact e (E6 _ _ (by omega) b h3 h4 (by simpa using this))
theorem rR(s:St)(x:Ls):jh s 1 x=aq s x:=by
 unfold jh aq;by_cases h:(hd s).k=1
 ·have e1:rk (hd s).k=1:=(mW _).2 h
  have e2:rs (hd s)=(hd s).s:=by unfold rs;rw[K9 (by omega)]
  rw[e1,e2,h];simp only[decide_true,BEq.rfl,Bool.true_and]
 ·have:¬rk (hd s).k=1:=fun e=>h ((mW _).1 e)
  rw[KT this,Bool.false_and];simp[h]
theorem gI(w:World)(b:Nat)(L:Value)(ts:List Tk)(s:St)(K:Nat)(x:Ls)(hx:x=oi K)(h3:5<=K)(h4:K<=17)(h:RS w b L ts s):
 Calls prog 67 #[.pointer (some ⟨b,0,none⟩),.int .i64 4,.string x] w fun e w'=>e=.returned (.bool (af s K))/\RS w' b L ts (ec s (af s K))/\ai b w w':=by
 have:=CF w b L ts s 4 x h (by decide);rw[hx,sm s K h3 h4 h.hdok]at this;rw[hx];exact this
theorem mi(w:World)(b:Nat)(L:Value)(ts:List Tk)(s:St)(x:Ls)(h:RS w b L ts s):
 Calls prog 67 #[.pointer (some ⟨b,0,none⟩),.int .i64 1,.string x] w fun e w'=>e=.returned (.bool (aq s x))/\RS w' b L ts (ec s (aq s x))/\ai b w w':=by
 have:=CF w b L ts s 1 x h (by decide);rw[rR]at this;exact this
theorem gQ(w:World)(b:Nat)(L:Value)(ts:List Tk)(s:St)(K:Nat)(x:Ls)(hx:x=oi K)(h3:5<=K)(h4:K<=17)(h:RS w b L ts s):
 Calls prog 70 #[.pointer (some ⟨b,0,none⟩),.int .i64 4,.string x] w fun e w'=>e=.returned (.tuple #[])/\RS w' b L ts (ak s (af s K))/\ai b w w':=by
 have:=xL w b L ts s 4 x h (by decide);rw[hx,sm s K h3 h4 h.hdok]at this;rw[hx];exact this
theorem DF(w:World)(b:Nat)(L:Value)(ts:List Tk)(s:St)(x:Ls)(h:RS w b L ts s):
 Calls prog 70 #[.pointer (some ⟨b,0,none⟩),.int .i64 1,.string x] w fun e w'=>e=.returned (.tuple #[])/\RS w' b L ts (ak s (aq s x))/\ai b w w':=by
 have:=xL w b L ts s 1 x h (by decide);rw[rR]at this;exact this
def fP:Nat->St->Ls×St
 |0,_=>(⟨#[]⟩,none)
 |f+1,s=>
  let p:=if af s 12=true then(⟨#[91]⟩++(fP f (tl s)).1++⟨#[93]⟩,ak (fP f (tl s)).2 (af (fP f (tl s)).2 13))else(nm s,ab s)
  if af p.2 5=true then(p.1++⟨#[33]⟩,tl p.2)else(p.1,p.2)
theorem EZ{w:World}{b:Nat}{L:Value}{ts:List Tk}{s:St}(h:RS w b L ts s):(nm s).size<=4000:=by
 unfold nm;split
 ·rcases h.hdok with e|e
  ·rw[e];decide
  ·exact e.2.2.1
 ·decide
theorem pz(f:Nat)(s:St):fP (f+1) s=(let p:=if af s 12=true then(⟨#[91]⟩++(fP f (tl s)).1++⟨#[93]⟩,ak (fP f (tl s)).2 (af (fP f (tl s)).2 13))else(nm s,ab s)
 if af p.2 5=true then(p.1++⟨#[33]⟩,tl p.2)else(p.1,p.2)):=rfl
theorem ID:∀(f:Nat) (w:World) (b:Nat) (L:Value) (ts:List Tk) (s:St),ln s<=f->f<=801->RS w b L ts s->
 Calls prog 108 #[.pointer (some ⟨b,0,none⟩)] w fun e w'=>e=.returned (.string (fP f s).1)/\RS w' b L ts (fP f s).2/\ai b w w'/\(fP f s).1.size<=4001+3*f:=by
 intro f
 induction f with
 |zero=>
  intro w b L ts s hl hf h;have hs:s=none:=by match s,hl with|none,_=>rfl|some l,hl=>simp[ln]at hl
  subst hs;have hm:=gI w b L ts none 12 ⟨#[91]⟩ rfl (by decide) (by decide) h;go_enter func108,ntmps108;go_wp2_with fail;refine hm.mono ?_;clear hm;rw[eP 12 (by decide)];rintro e w1 ⟨rfl,hr1,hk1⟩;have hm:=iX w1 b L ts none hr1;go_wp2_with fail;refine hm.mono ?_;clear hm;rintro e w2 ⟨rfl,hr2,hk2⟩;have hm:=gI w2 b L ts none 5 ⟨#[33]⟩ rfl (by decide) (by decide) hr2;rw[eP 5 (by decide)]at hm;go_wp2_with fail;refine hm.mono ?_;clear hm;rintro e w3 ⟨rfl,hr3,hk3⟩;go_wp2_with fail;go_ret;exact⟨rfl,hr3,(hk1.trans hk2).trans hk3,by decide⟩
 |succ f ih=>
  intro w b L ts s hl hf h;have IH:=aa ih;clear ih;have hm:=gI w b L ts s 12 ⟨#[91]⟩ rfl (by decide) (by decide) h;cases h12:af s 12
  ·rw[h12]at hm
   go_enter func108,ntmps108;go_wp2_with fail;refine hm.mono ?_;clear hm;rintro e w1 ⟨rfl,hr1,hk1⟩;have hr1:RS w1 b L ts s:=hr1;have hm:=iX w1 b L ts s hr1;have hnz:=EZ h;go_wp2_with fail;refine hm.mono ?_;clear hm;rintro e w2 ⟨rfl,hr2,hk2⟩;have hk3:=hk1.trans hk2;clear hk1 hk2 hr1;have H12:=aa h12;clear h12;have hm5:=gI w2 b L ts (ab s) 5 ⟨#[33]⟩ rfl (by decide) (by decide) hr2;cases h5:af (ab s) 5
   ·rw[h5]at hm5
    have HE:=aa (show fP (f+1) s=(nm s,ab s)from by rw[pz,H12.o];simp only[Lj,if_false];rw[K8 (by rw[h5];decide)]);clear h5;go_wp2_with fail;refine hm5.mono ?_;clear hm5;rintro e w9 ⟨rfl,hr9,hk9⟩;go_wp2_with fail;go_ret;exact⟨by rw[HE.o];rfl,by rw[HE.o];exact hr9,hk3.trans hk9,by rw[HE.o];simp only;omega⟩
   ·rw[h5]at hm5
    have HE:=aa (show fP (f+1) s=(nm s++⟨#[33]⟩,tl (ab s))from by rw[pz,H12.o];simp only[Lj,if_false];rw[K9 h5]);clear h5;go_wp2_with fail;refine hm5.mono ?_;clear hm5;rintro e w9 ⟨rfl,hr9,hk9⟩;go_wp2_with fail;go_ret;exact⟨by rw[HE.o];rfl,by rw[HE.o];exact hr9,hk3.trans hk9,by rw[HE.o];simp only[ByteArray.size_append];have:(⟨#[33]⟩:Ls).size=1:=rfl;omega⟩
  ·rw[h12]at hm
   have hlt:=eY s 12 (by decide) h12;have H12:=aa h12;clear h12;go_enter func108,ntmps108;go_wp2_with fail;refine hm.mono ?_;clear hm;rintro e w1 ⟨rfl,hr1,hk1⟩;have hr1:RS w1 b L ts (tl s):=hr1;have c2:=hr1.badc;have hnn:(tl s).isNone=false:=by
    match s,H12.o with
    |none,x=>rw[eP 12 (by decide)]at x;cases x
    |some [],x=>rfl
    |some (t::l),x=>rfl
   rw[hnn]at c2;clear hnn;have hm:=IH.o w1 b L ts (tl s) (by omega) (by omega) hr1;clear hr1;go_wp2_with fail;refine hm.mono ?_;clear hm;rintro e w2 ⟨rfl,hr2,hk2,hz2⟩;have HE0:=aa (pz f s);rw[H12.o]at HE0;generalize (fP f (tl s)).1=y at*;generalize (fP f (tl s)).2=s2 at*;have hm:=gQ w2 b L ts s2 13 ⟨#[93]⟩ rfl (by decide) (by decide) hr2;clear hr2 c2;go_wp2_with fail;refine hm.mono ?_;clear hm;rintro e w3 ⟨rfl,hr3,hk3⟩;have hk4:=(hk1.trans hk2).trans hk3;clear hk1 hk2 hk3;generalize ak s2 (af s2 13)=s3 at*;have hm5:=gI w3 b L ts (s3) 5 ⟨#[33]⟩ rfl (by decide) (by decide) hr3;cases h5:af (s3) 5
   ·rw[h5]at hm5
    have HE:=aa (show fP (f+1) s=((⟨#[91]⟩++y++⟨#[93]⟩),s3)from by rw[HE0.o];simp only[if_true];rw[K8 (by rw[h5];decide)]);clear h5;go_wp2_with fail;refine hm5.mono ?_;clear hm5;rintro e w9 ⟨rfl,hr9,hk9⟩;go_wp2_with fail;go_ret;exact⟨by rw[HE.o];rfl,by rw[HE.o];exact hr9,hk4.trans hk9,by rw[HE.o];simp only[ByteArray.size_append];have:(⟨#[91]⟩:Ls).size=1:=rfl;have:(⟨#[93]⟩:Ls).size=1:=rfl;omega⟩
   ·rw[h5]at hm5
    have HE:=aa (show fP (f+1) s=((⟨#[91]⟩++y++⟨#[93]⟩)++⟨#[33]⟩,tl (s3))from by rw[HE0.o];simp only[if_true];rw[K9 h5]);clear h5;go_wp2_with fail;refine hm5.mono ?_;clear hm5;rintro e w9 ⟨rfl,hr9,hk9⟩;go_wp2_with fail;go_ret;exact⟨by rw[HE.o];rfl,by rw[HE.o];exact hr9,hk4.trans hk9,by rw[HE.o];simp only[ByteArray.size_append];have:(⟨#[91]⟩:Ls).size=1:=rfl;have:(⟨#[93]⟩:Ls).size=1:=rfl;have:(⟨#[33]⟩:Ls).size=1:=rfl;omega⟩
end Go.Proofs.YtgbloieahmkcjaaGreat
