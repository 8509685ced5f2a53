import Derived.Test.YtgbloieahmkcjaaGreatC04
namespace Go.Proofs.YtgbloieahmkcjaaGreat
set_option maxHeartbeats 20000000
set_option maxRecDepth 100000
open Go.RowKit Tryz
def oU(w:World)(v:Value)(G:Nat)(l:List Tk):Prop:=(l=[]/\∃a cap,v=.slice a 0 cap)\/∃off cap cur,v=.slice (some ⟨G,off,none⟩) l.length cap/\l.length<=cap/\w.heap[G]?=some (.cells cur 223 (0,0))/\(cur.toList.drop off).take (l.length*3)=mA l
structure PS(w:World)(b G:Nat)(s:St):Prop where
 st:∃v,w.heap[b]?=some (.cells #[v,.bool s.isNone] 193 (0,0))/\oU w v G (s.getD [])/\(s=none->v=.slice none 0 0)
 len:ln s<=801
 wf:∀t∈s.getD [],io t
 glt:G<w.heap.size
def eu(s:St):Bool:=(s.getD []).isEmpty
theorem oU.move{w w':World}{v:Value}{G:Nat}{l:List Tk}(h:oU w v G l)(hb:w'.heap[G]?=w.heap[G]?):oU w' v G l:=by
 rcases h with h|⟨off,cap,cur,h1,h1',h2,h3⟩
 ·exact Or.inl h
 ·exact Or.inr ⟨off,cap,cur,h1,h1',by rw[hb];exact h2,h3⟩
theorem oU.slice{w:World}{v:Value}{G:Nat}{l:List Tk}(h:oU w v G l):∃a cap,v=.slice a l.length cap:=by
 rcases h with⟨rfl,a,cap,h⟩|⟨off,cap,cur,h1,_⟩
 ·exact⟨a,cap,h⟩
 ·exact⟨_,_,h1⟩
theorem PS.lt{w:World}{b G:Nat}{s:St}(h:PS w b G s):b<w.heap.size:=by
 obtain⟨v,h1,_⟩:=h.st;exact ag h1
theorem PS.ty{w:World}{b G:Nat}{s:St}(h:PS w b G s):∃cs,w.heap[b]?=some (.cells cs 193 (0,0)):=by
 obtain⟨v,h1,_⟩:=h.st;exact⟨_,h1⟩
theorem PS.move{X Y:World}{b G:Nat}{s:St}(hX:PS X b G s)(hb:Y.heap[b]?=X.heap[b]?)(hG:Y.heap[G]?=X.heap[G]?)(hs:X.heap.size<=Y.heap.size):PS Y b G s:=by
 obtain⟨v,h1,h2,h3⟩:=hX.st;exact⟨⟨v,by rw[hb];exact h1,h2.move hG,h3⟩,hX.len,hX.wf,KV hX.glt hs⟩
theorem PS.below{w w':World}{b G:Nat}{s:St}(h:PS w b G s)(hb:Lt w w'):PS w' b G s:=
 h.move (hb.block b h.lt) (hb.block G h.glt) hb.size
theorem PS.keep{w w':World}{b G F:Nat}{s:St}(h:PS w b G s)(hk:ai F w w')(h1:b≠F)(h2:G≠F):PS w' b G s:=
 h.move (hk.block b h.lt h1) (hk.block G h.glt h2) hk.size
theorem PS.alloc{w:World}{b G:Nat}{s:St}(h:PS w b G s)(o:Obj):PS (w.alloc o) b G s:=h.below ((KL _ _).alloc (KK _) _)
theorem PS.set{w:World}{b G F:Nat}{s:St}(h:PS w b G s)(h1:b≠F)(h2:G≠F)(i:Nat)(v:Value):PS (w.setCell ⟨F,i,none⟩ v) b G s:=
 h.keep ((ai.refl F w).setCell i v) h1 h2
theorem PS.setT{w:World}{b G F:Nat}{s:St}{cs:Array Value}{T:TypeId}{fr:Nat×Nat}(h:PS w b G s)(hF:w.heap[F]?=some (.cells cs T fr))(hT:T≠193)(h2:G≠F)(i:Nat)(v:Value):PS (w.setCell ⟨F,i,none⟩ v) b G s:=
 h.set (fun e=>by subst e;obtain⟨c,hc⟩:=h.ty;rw[hc]at hF;cases hF;exact hT rfl) h2 i v
theorem PS.hdok{w:World}{b G:Nat}{s:St}(h:PS w b G s):hd s=ib\/io (hd s):=by
 match s,h.wf with
 |none,_=>exact Or.inl rfl
 |some [],_=>exact Or.inl rfl
 |some (t::l),wf=>exact Or.inr (wf t (by simp))
theorem pc(w:World)(b G:Nat)(s:St)(h:PS w b G s):
 Calls prog 54 #[.pointer (some ⟨b,0,none⟩)] w fun e w'=>e=.returned (.bool (eu s))/\w'=w:=by
 obtain⟨v,h1,h2,h3⟩:=h.st;obtain⟨a,cap,rfl⟩:=h2.slice;have c0:w.cell? ⟨b,0,none⟩=some (.slice a (s.getD []).length cap):=ae h1 0;have HQ:=aa (show eu s=decide ((s.getD []).length=0)from by unfold eu;cases s.getD []<;>simp);clear h1 h2 h3;generalize (s.getD []).length=n at*;by_cases hn:n=0
 ·have t:((n:Int)==0)=true:=by simp;omega
  go_enter func54,ntmps54
  go_wp2
  go_ret;exact⟨am (by rw[HQ.o,Le hn]),rfl⟩
 ·have t:((n:Int)==0)=false:=by simp;omega
  go_enter func54,ntmps54
  go_wp2
  go_ret;exact⟨am (by rw[HQ.o,KT hn]),rfl⟩
def jW(s:St):Bool:=eu s&&!s.isNone
theorem CR(w:World)(b G:Nat)(s:St)(h:PS w b G s):
 Calls prog 55 #[.pointer (some ⟨b,0,none⟩)] w fun e w'=>e=.returned (.bool (jW s))/\w'=w:=by
 have hc:=pc w b G s h;obtain⟨v,h1,h2,h3⟩:=h.st;have c1:w.cell? ⟨b,1,none⟩=some (.bool s.isNone):=ae h1 1;have HQ:=aa (show jW s=(eu s&&!s.isNone)from rfl);clear h1 h2 h3;generalize s.isNone=q1 at*;cases hq:eu s
 ·rw[hq]at hc
  go_enter func55,ntmps55;go_wp2_with fail;refine hc.mono ?_;rintro e w' ⟨rfl,rfl⟩;go_wp2_with fail;go_ret;exact⟨am (by rw[HQ.o,hq];rfl),rfl⟩
 ·rw[hq]at hc
  go_enter func55,ntmps55;go_wp2_with fail;refine hc.mono ?_;rintro e w' ⟨rfl,rfl⟩;go_wp2_with fail;go_ret;exact⟨am (by rw[HQ.o,hq];simp),rfl⟩
theorem PS.failed{w:World}{b G:Nat}{s:St}(h:PS w b G s):PS ((w.setCell ⟨b,0,none⟩ (.slice none 0 0)).setCell ⟨b,1,none⟩ (.bool true)) b G none:=by
 obtain⟨v,h1,h2,h3⟩:=h.st;refine⟨⟨.slice none 0 0,?_,Or.inl ⟨rfl,_,_,rfl⟩,fun _=>rfl⟩,by simp[ln],fun t ht=>by simp at ht,by simpa [World.setCell]using h.glt⟩;rw[aJ (aJ h1 0 _) 1 _];rfl
theorem mt(w:World)(b G:Nat)(s:St)(h:PS w b G s):
 Calls prog 98 #[.pointer (some ⟨b,0,none⟩)] w fun e w'=>e=.returned (.tuple #[])/\PS w' b G none/\ai b w w':=by
 have HF:=aa h.failed;obtain⟨v,h1,h2,h3⟩:=h.st;obtain⟨a,cap,rfl⟩:=h2.slice;have c0:w.cell? ⟨b,0,none⟩=some (.slice a (s.getD []).length cap):=ae h1 0;have c1:w.cell? ⟨b,1,none⟩=some (.bool s.isNone):=ae h1 1;have f0:=ar h1 0;have f1:=ar h1 1;clear h1 h2 h3 h;go_enter func98,ntmps98;go_wp2_with fail;go_end0;exact⟨rfl,HF.o,((ai.refl b w).setCell 0 _).setCell 1 _⟩
theorem Cq{w:World}{v:Value}{g:Nat}{t:Tk}{l:List Tk}(h:oU w v g (t::l)):∃off cap cur,v=.slice (some ⟨g,off,none⟩) (l.length+1) cap/\l.length+1<=cap/\w.heap[g]?=some (.cells cur 223 (0,0))/\w.cell? ⟨g,off,none⟩=some (.int .i64 t.k)/\w.cell? ⟨g,off+1,none⟩=some (.string t.s)/\w.cell? ⟨g,off+2,none⟩=some (.int .i64 t.n)/\(cur.toList.drop (off+3)).take (l.length*3)=mA l:=by
 rcases h with⟨e,_⟩|⟨off,cap,cur,h1,h1',h2,h3⟩
 ·cases e
 ·refine⟨off,cap,cur,h1,h1',h2,?_⟩
  have e:mA (t::l)=.int .i64 t.k::.string t.s::.int .i64 t.n::mA l:=rfl;rw[e,Lm,show(l.length+1)*3=l.length*3+1+1+1 by omega]at h3;have key:∀j,(cur.toList.drop off)[j]?=cur[off+j]?:=fun j=>by rw[List.getElem?_drop];simp
  have g0:cur[off+0]?=some (.int .i64 t.k):=by
   rw[<-key 0];have:=congrArg (fun x=>x[0]?) h3;simpa [List.getElem?_take]using this
  have g1:cur[off+1]?=some (.string t.s):=by
   rw[<-key 1];have:=congrArg (fun x=>x[1]?) h3;simpa [List.getElem?_take]using this
  have g2:cur[off+2]?=some (.int .i64 t.n):=by
   rw[<-key 2];have:=congrArg (fun x=>x[2]?) h3;simpa [List.getElem?_take]using this
  refine⟨by rw[ae h2];exact g0,by rw[ae h2];exact g1,by rw[ae h2];exact g2,?_⟩;have:=congrArg (fun x=>x.drop 3) h3;simp only[List.drop_take,List.drop_drop]at this;simpa using this
theorem uv(w:World)(b G:Nat)(s:St)(h:PS w b G s):
 Calls prog 130 #[.pointer (some ⟨b,0,none⟩)] w fun e w'=>e=.returned (.agg #[.int .i64 (hd s).k,.string (hd s).s,.int .i64 (hd s).n])/\Lt w w':=by
 have hlt:=h.lt;have hc:=pc (w.alloc (.cells #[.int .i64 0,.string ⟨#[]⟩,.int .i64 0] 223)) b G s (h.below ((KL _ _).alloc (KK _) _));obtain⟨v,h1,h2,h3⟩:=h.st
 match s,h1,h2,h3,hc with
 |none,h1,h2,h3,hc=>
  clear h h1 h2 h3;go_enter func130,ntmps130;go_wp2_with fail;refine hc.mono ?_;rw[show eu none=true from rfl];rintro e w' ⟨rfl,rfl⟩;go_wp2_with fail;exact bodyPost_ret (v:=.agg #[.int .i64 0,.string ⟨#[]⟩,.int .i64 0]) (by simp[results,results130,go_sem]) rfl ⟨rfl,(KL _ _).alloc (KK _) _⟩
 |some [],h1,h2,h3,hc=>
  clear h h1 h2 h3;go_enter func130,ntmps130;go_wp2_with fail;refine hc.mono ?_;rw[show eu (some [])=true from rfl];rintro e w' ⟨rfl,rfl⟩;go_wp2_with fail;exact bodyPost_ret (v:=.agg #[.int .i64 0,.string ⟨#[]⟩,.int .i64 0]) (by simp[results,results130,go_sem]) rfl ⟨rfl,(KL _ _).alloc (KK _) _⟩
 |some (t::l),h1,h2,h3,hc=>
  obtain⟨off,cap,cur,rfl,Oh,hg,d0,d1,d2,_⟩:=Cq h2;have c0:w.cell? ⟨b,0,none⟩=some (.slice (some ⟨G,off,none⟩) (l.length+1) cap):=ae h1 0;have hgl:=ag hg;show Calls _ _ _ _ fun e w'=>e=.returned (.agg #[.int .i64 t.k,.string t.s,.int .i64 t.n])/\Lt w w';clear h h1 h2 h3 hg;go_enter func130,ntmps130;go_wp2_with fail;refine hc.mono ?_;rw[show eu (some (t::l))=false from rfl];rintro e w' ⟨rfl,rfl⟩;go_wp2_with fail;exact bodyPost_ret (v:=.agg #[.int .i64 t.k,.string t.s,.int .i64 t.n]) (by simp[results,results130,go_sem]) rfl ⟨rfl,(KL _ _).alloc (KK _) _⟩
end Go.Proofs.YtgbloieahmkcjaaGreat
