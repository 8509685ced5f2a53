import Derived.Test.YtgbloieahmkcjaaGreatC12
import Derived.Test.YtgbloieahmkcjaaGreatC06
namespace Go.Proofs.YtgbloieahmkcjaaGreat
set_option maxHeartbeats 20000000
set_option maxRecDepth 100000
open Go.RowKit Tryz
theorem mM(w:World)(b G:Nat)(s:St)(K:Nat)(h:PS w b G s):
 Calls prog 127 #[.pointer (some ⟨b,0,none⟩),.int .i64 K] w fun e w'=>e=.returned (.bool (af s K))/\PS w' b G (ec s (af s K))/\ai b w w':=by
 have hc:=qw w b G s K h;cases hx:af s K
 ·rw[hx]at hc
  go_enter func127,ntmps127;go_wp2_with fail;refine hc.mono ?_;clear hc;rintro e w1 ⟨rfl,hb1⟩;go_wp2_with fail;go_ret;exact⟨rfl,h.below hb1,ai.of_below hb1⟩
 ·rw[hx]at hc
  go_enter func127,ntmps127;go_wp2_with fail;refine hc.mono ?_;clear hc;rintro e w1 ⟨rfl,hb1⟩;have hn:=uf w1 b G s (h.below hb1);go_wp2_with fail;refine hn.mono ?_;clear hn;rintro e w2 ⟨rfl,hp,hk⟩;go_wp2_with fail;go_ret;exact⟨rfl,hp,(ai.of_below hb1).trans hk⟩
theorem ur(w:World)(b G:Nat)(s:St)(x:Ls)(h:PS w b G s):
 Calls prog 132 #[.pointer (some ⟨b,0,none⟩),.string x] w fun e w'=>e=.returned (.bool (aq s x))/\PS w' b G (ec s (aq s x))/\ai b w w':=by
 have hc:=DZ w b G s x h;cases hx:aq s x
 ·rw[hx]at hc
  go_enter func132,ntmps132;go_wp2_with fail;refine hc.mono ?_;clear hc;rintro e w1 ⟨rfl,hb1⟩;go_wp2_with fail;go_ret;exact⟨rfl,h.below hb1,ai.of_below hb1⟩
 ·rw[hx]at hc
  go_enter func132,ntmps132;go_wp2_with fail;refine hc.mono ?_;clear hc;rintro e w1 ⟨rfl,hb1⟩;have hn:=uf w1 b G s (h.below hb1);go_wp2_with fail;refine hn.mono ?_;clear hn;rintro e w2 ⟨rfl,hp,hk⟩;go_wp2_with fail;go_ret;exact⟨rfl,hp,(ai.of_below hb1).trans hk⟩
theorem C9(w:World)(b G:Nat)(s:St)(x:Ls)(h:PS w b G s):
 Calls prog 133 #[.pointer (some ⟨b,0,none⟩),.string x] w fun e w'=>e=.returned (.tuple #[])/\PS w' b G (ak s (aq s x))/\ai b w w':=by
 have hc:=ur w b G s x h;cases hx:aq s x
 ·rw[hx]at hc
  go_enter func133,ntmps133;go_wp2_with fail;refine hc.mono ?_;clear hc;rintro e w1 ⟨rfl,hp1,hk1⟩;have hn:=mt w1 b G s hp1;go_wp2_with fail;refine hn.mono ?_;clear hn;rintro e w2 ⟨rfl,hp,hk⟩;go_wp2_with fail;go_end0;exact⟨rfl,hp,hk1.trans hk⟩
 ·rw[hx]at hc
  go_enter func133,ntmps133;go_wp2_with fail;refine hc.mono ?_;clear hc;rintro e w1 ⟨rfl,hp1,hk1⟩;go_wp2_with fail;go_end0;exact⟨rfl,hp1,hk1⟩
def ce(s:St)(K:Nat):Tk:=if af s K=true then hd s else ib
theorem ES(s:St):nm s=(ce s 1).s:=by unfold nm ce;split<;>rfl
theorem Ec(s:St):ab s=ak s (af s 1):=rfl
theorem Cj{w:World}{b G N:Nat}{s:St}(h:PS w b G s)(h1:b≠N)(h2:G≠N)(x y z:Value):PS (((w.setCell ⟨N,0,none⟩ x).setCell ⟨N,1,none⟩ y).setCell ⟨N,2,none⟩ z) b G s:=
 ((h.set h1 h2 _ _).set h1 h2 _ _).set h1 h2 _ _
theorem iG(w:World)(b G:Nat)(s:St)(K:Nat)(h:PS w b G s):
 Calls prog 125 #[.pointer (some ⟨b,0,none⟩),.int .i64 K] w fun e w'=>e=.returned (.agg #[.int .i64 (ce s K).k,.string (ce s K).s,.int .i64 (ce s K).n])/\PS w' b G (ak s (af s K))/\ai b w w':=by
 have hlt:=h.lt;have hgl:=h.glt;have h':PS (w.alloc (.cells #[.int .i64 0,.string ⟨#[]⟩,.int .i64 0] 223)) b G s:=h.alloc _;have hc:=qw _ b G s K h';have hka:ai b w (w.alloc (.cells #[.int .i64 0,.string ⟨#[]⟩,.int .i64 0] 223)):=(ai.refl b w).alloc _;have hN:(w.alloc (.cells #[.int .i64 0,.string ⟨#[]⟩,.int .i64 0] 223)).heap[w.heap.size]?=some (.cells #[.int .i64 0,.string ⟨#[]⟩,.int .i64 0] 223 (0,0)):=KS w _;cases hx:af s K
 ·rw[hx]at hc
  have e0:ce s K=ib:=by unfold ce;rw[hx];rfl
  rw[e0];show Calls _ _ _ _ fun e w'=>e=.returned (.agg #[.int .i64 0,.string ⟨#[]⟩,.int .i64 0])/\PS w' b G none/\ai b w w';go_enter func125,ntmps125;go_wp2_with fail;refine hc.mono ?_;clear hc;rintro e w1 ⟨rfl,hb1⟩;have hn:=mt w1 b G s (h'.below hb1);have hN1:=(hb1.block w.heap.size (by simp)).trans hN;have hk1:ai b w w1:=hka.trans (ai.of_below hb1);go_wp2_with fail;refine hn.mono ?_;clear hn;rintro e w2 ⟨rfl,hp,hk⟩;have hN2:=hk.at hN1 (by omega);have hs2:w.heap.size<w2.heap.size:=ag hN2;have hc0:w2.cell? ⟨w.heap.size,0,none⟩=some (.int .i64 0):=ae hN2 0;have hc1:w2.cell? ⟨w.heap.size,1,none⟩=some (.string ⟨#[]⟩):=ae hN2 1;have hc2:w2.cell? ⟨w.heap.size,2,none⟩=some (.int .i64 0):=ae hN2 2;have hf:∀j,w2.frozen? ⟨w.heap.size,j,none⟩=false:=fun j=>ar hN2 j;have HP:=aa hp;have HK:=aa (hk1.trans hk);clear hp hk hk1 hka hN hN1 h h' hb1 hN2;go_wp2_with fail;refine bodyPost_ret (v:=.agg #[.int .i64 0,.string ⟨#[]⟩,.int .i64 0]) (by simp[results,results125,go_sem,hc0,hc1,hc2]) rfl ⟨rfl,?_,?_⟩
  ·exact Cj HP.o (by omega) (by omega) _ _ _
  ·exact((HK.o.setNew _ (KK _) _).setNew _ (KK _) _).setNew _ (KK _) _
 ·rw[hx]at hc
  have e0:ce s K=hd s:=by unfold ce;rw[hx];rfl
  rw[e0];show Calls _ _ _ _ fun e w'=>e=.returned (.agg #[.int .i64 (hd s).k,.string (hd s).s,.int .i64 (hd s).n])/\PS w' b G (tl s)/\ai b w w';have hn0:=fun w1 h=>uf w1 b G s h;generalize (hd s).k=k1 at*;generalize (hd s).s=y1 at*;generalize (hd s).n=n1 at*;go_enter func125,ntmps125;go_wp2_with fail;refine hc.mono ?_;clear hc;rintro e w1 ⟨rfl,hb1⟩;have hn:=hn0 w1 (h'.below hb1);have hN1:=(hb1.block w.heap.size (by simp)).trans hN;have hk1:ai b w w1:=hka.trans (ai.of_below hb1);clear hn0;go_wp2_with fail;refine hn.mono ?_;clear hn;rintro e w2 ⟨rfl,hp,hk⟩;have hN2:=hk.at hN1 (by omega);have hs2:w.heap.size<w2.heap.size:=ag hN2;have hc0:w2.cell? ⟨w.heap.size,0,none⟩=some (.int .i64 0):=ae hN2 0;have hc1:w2.cell? ⟨w.heap.size,1,none⟩=some (.string ⟨#[]⟩):=ae hN2 1;have hc2:w2.cell? ⟨w.heap.size,2,none⟩=some (.int .i64 0):=ae hN2 2;have hf:∀j,w2.frozen? ⟨w.heap.size,j,none⟩=false:=fun j=>ar hN2 j;have HP:=aa hp;have HK:=aa (hk1.trans hk);clear hp hk hk1 hka hN hN1 h h' hb1 hN2;go_wp2_with fail;refine bodyPost_ret (v:=.agg #[.int .i64 k1,.string y1,.int .i64 n1]) (by simp[results,results125,go_sem,hc0,hc1,hc2]) rfl ⟨rfl,?_,?_⟩
  ·exact Cj HP.o (by omega) (by omega) _ _ _
  ·exact((HK.o.setNew _ (KK _) _).setNew _ (KK _) _).setNew _ (KK _) _
theorem mr(w:World)(b G:Nat)(s:St)(h:PS w b G s):
 Calls prog 93 #[.pointer (some ⟨b,0,none⟩)] w fun e w'=>e=.returned (.string (nm s))/\PS w' b G (ab s)/\ai b w w':=by
 have NA:=vW;have hc:=iG w b G s 1 h;rw[ES,Ec];generalize (ce s 1).k=k1 at*;generalize (ce s 1).s=y1 at*;generalize (ce s 1).n=n1 at*;go_enter func93,ntmps93;go_wp2_with fail;refine hc.mono ?_;clear hc;rintro e w1 ⟨rfl,hp,hk⟩;go_wp2_with fail;go_ret;exact⟨rfl,hp,hk⟩
theorem yg(x:Ls)(w:World)(hs:x.size<=maxLen):
 Calls prog 52 #[.string x] w fun e w'=>∃b G,e=.returned (.pointer (some ⟨b,0,none⟩))/\w.heap.size<=b/\PS w' b G (av x)/\Lt w w':=by
 have hc:=DG x w hs;go_enter func52,ntmps52;go_wp2_with fail;refine hc.mono ?_;clear hc;rintro e w1 ⟨v,q,ts,rfl,hb1,Ma,hcut,hz⟩;obtain⟨aV,capV,rfl⟩:∃a c,v=.slice a ts.length c:=by
  rcases Ma.2 with⟨hv,hn⟩|⟨g,cap,cur,hv,_⟩
  ·exact⟨none,0,by rw[hv,hn]⟩
  ·exact⟨_,_,hv⟩
 have No:=aa Ma;have HZ:=aa hz;have HCUT:=aa hcut;clear Ma hz hcut;go_wp2_with fail;go_ret;have Ma:=No.o;have hz:=HZ.o;have hcut:=HCUT.o;have hnew:=KS w1 (.cells #[.slice aV ts.length capV,.bool (!q)] 193 (0,0));have hwf:(∀t∈(av x).getD [],io t)/\ln (av x)<=801:=by
  cases hq:av x with
  |none=>exact⟨fun t ht=>by simp at ht,by simp[ln]⟩
  |some l=>obtain⟨a,b⟩:=oc x l hq;exact⟨by simpa using a,by simp[ln];omega⟩
 have e1:(av x).isNone=!q:=by rw[hcut];cases q<;>rfl
 have e2:(av x).getD []=ts:=by
  rw[hcut];cases q
  ·exact((hz rfl).1).symm
  ·rfl
 have e3:av x=none->Value.slice aV ts.length capV=.slice none 0 0:=by
  intro h;rw[h]at hcut;cases q
  ·exact(hz rfl).2
  ·cases hcut
 rcases Ma.2 with⟨hv,hn⟩|⟨g,cap,cur,hv,hg,hh,Oh,_,_,htk⟩
 ·exact⟨w1.heap.size,w1.heap.size,rfl,hb1.size,⟨⟨_,by rw[e1];exact hnew,by rw[e2];exact Or.inl ⟨KZ hn,_,_,hv⟩,e3⟩,hwf.2,hwf.1,by simp⟩,hb1.alloc hb1.size _⟩
 ·exact⟨w1.heap.size,g,rfl,hb1.size,⟨⟨_,by rw[e1];exact hnew,by rw[e2];exact Or.inr ⟨0,cap,cur,hv,Oh,by rw[bp _ _ _ (ag hh)];exact hh,by simpa using htk⟩,e3⟩,hwf.2,hwf.1,by have:=ag hh;simp;omega⟩,hb1.alloc hb1.size _⟩
def PP(w:World)(p b S:Nat):Prop:=w.heap[p]?=some (.cells #[.pointer (some ⟨b,0,none⟩),.pointer (some ⟨S,0,none⟩)] 135 (0,0))
theorem PP.lt{w:World}{p b S:Nat}(h:PP w p b S):p<w.heap.size:=ag h
theorem PP.c0{w:World}{p b S:Nat}(h:PP w p b S):w.cell? ⟨p,0,none⟩=some (.pointer (some ⟨b,0,none⟩)):=ae h 0
theorem PP.c1{w:World}{p b S:Nat}(h:PP w p b S):w.cell? ⟨p,1,none⟩=some (.pointer (some ⟨S,0,none⟩)):=ae h 1
theorem PP.below{w w':World}{p b S:Nat}(h:PP w p b S)(hb:Lt w w'):PP w' p b S:=by
 unfold PP at*;rw[hb.block p (ag h)];exact h
theorem PP.alloc{w:World}{p b S:Nat}(h:PP w p b S)(o:Obj):PP (w.alloc o) p b S:=h.below ((KL _ _).alloc (KK _) _)
theorem PP.keepF{w w':World}{p b S F:Nat}(h:PP w p b S)(hk:ai F w w')(hF:p≠F):PP w' p b S:=by
 unfold PP at*;rw[hk.block p (ag h) hF];exact h
theorem PP.ne{w:World}{p b S F:Nat}{cs:Array Value}{T:TypeId}{fr:Nat×Nat}(h:PP w p b S)(hF:w.heap[F]?=some (.cells cs T fr))(hT:T≠135):p≠F:=fun e=>by
 subst e;unfold PP at h;rw[h]at hF;cases hF;exact hT rfl
theorem PP.keep{w w':World}{p b S G:Nat}{s:St}(h:PP w p b S)(hs:PS w b G s)(hk:ai b w w'):PP w' p b S:=by
 obtain⟨c,hc⟩:=hs.ty;exact h.keepF hk (h.ne hc (by decide))
theorem PP.set{w:World}{p b S F:Nat}{cs:Array Value}{T:TypeId}{fr:Nat×Nat}(h:PP w p b S)(hF:w.heap[F]?=some (.cells cs T fr))(hT:T≠135)(i:Nat)(v:Value):PP (w.setCell ⟨F,i,none⟩ v) p b S:=
 h.keepF ((ai.refl F w).setCell i v) (h.ne hF hT)
theorem PS.stay{T:TypeId}{B:Nat}{w w':World}{b G:Nat}{s:St}(h:PS w b G s)(hk:ai b w w')(hT:T≠193:=by decide):au T B w w':=by
 obtain⟨c,hc⟩:=h.ty;exact au.of_keep hk hc (fun e=>hT e.symm)
theorem Jw:∀(f:Nat) (w:World) (p b S G:Nat) (s:St),ln s<=f->PP w p b S->PS w b G s->
 Calls prog 197 #[.pointer (some ⟨p,0,none⟩)] w fun e w'=>∃k,e=.returned (.pointer (some ⟨k,0,none⟩))/\d9 w' w.heap.size (.pointer (some ⟨k,0,none⟩)) (bU (f+1) s).1/\PS w' b G (bU (f+1) s).2/\ai b w w':=by
 intro f
 induction f using Nat.strongRecOn with
 |_ f ih=>
 intro w p b S G s hl hP h;have hlt:=h.lt;have hgl:=h.glt;have hpl:=hP.lt;have h0:PS (w.alloc (.cells #[.string ⟨#[]⟩,.int .i64 0,.pointer none,.bool false] 257)) b G s:=h.alloc _;have P0:PP (w.alloc (.cells #[.string ⟨#[]⟩,.int .i64 0,.pointer none,.bool false] 257)) p b S:=hP.alloc _;have N0:(w.alloc (.cells #[.string ⟨#[]⟩,.int .i64 0,.pointer none,.bool false] 257)).heap[w.heap.size]?=some (.cells #[.string ⟨#[]⟩,.int .i64 0,.pointer none,.bool false] 257 (0,0)):=KS w _;have K0:ai b w (w.alloc (.cells #[.string ⟨#[]⟩,.int .i64 0,.pointer none,.bool false] 257)):=(ai.refl b w).alloc _;have hc:=mM _ b G s 12 h0;have c0:=P0.c0;have cp:=hP.c0;cases hx:af s 12
 ·rw[hx]at hc
  rw[show bU (f+1) s=(.one (nm s) (af (ab s) 5),ec (ab s) (af (ab s) 5))from by simp[bU,hx]];have H0:=aa h0;have HP0:=aa P0;have HN0:=aa N0;clear h0 P0 N0 hP h ih;go_enter func197,ntmps197;go_wp2_with fail;refine hc.mono ?_;clear hc;rintro e w1 ⟨rfl,h1,k1⟩;have P1:=HP0.o.keep H0.o k1;have N1:=k1.at HN0.o (by omega);have c1:=P1.c0;have hn:=mr w1 b G s h1;have K1:=aa (K0.trans k1);have H1:=aa h1;have HP1:=aa P1;have HN1:=aa N1;clear H0 HP0 HN0 c0 k1 h1 P1 N1 K0;go_wp2_with fail;refine hn.mono ?_;clear hn;rintro e w2 ⟨rfl,h2,k2⟩;have P2:=HP1.o.keep H1.o k2;have N2:=k2.at HN1.o (by omega);have c2:=P2.c0;have f2:=ar N2 0;have c20:w2.cell? ⟨w.heap.size,0,none⟩=some (.string ⟨#[]⟩):=ae N2 0;have h3:=h2.set (F:=w.heap.size) (by omega) (by omega) 0 (.string (nm s));have P3:=P2.set N2 (by decide) 0 (.string (nm s));have N3:=aJ N2 0 (.string (nm s));have ht:=mM _ b G (ab s) 5 h3;have K2:=aa ((K1.o.trans k2).setNew ⟨w.heap.size,0,none⟩ (KK _) (.string (nm s)));have HN3:=aa N3;have hsz:=ag N2;have hpn:p≠w.heap.size:=by omega
  clear H1 HP1 HN1 c1 k2 h2 P2 N2 P3 h3 K1 N3;go_wp2_with fail;refine ht.mono ?_;clear ht;rintro e w3 ⟨rfl,h4,k3⟩;have N4:=k3.at HN3.o (by omega);have f4:=ar N4 3;have c43:w3.cell? ⟨w.heap.size,3,none⟩=some (.bool false):=ae N4 3;have HN4:=aa N4;have H4:=aa h4;have K4:=aa (K2.o.trans k3);clear N4 HN3 h4 k3 K2 f2 c20 c2;go_wp2_with fail;go_ret;exact⟨_,rfl,⟨_,rfl,KK _,aJ HN4.o 3 _⟩,H4.o.set (by omega) (by omega) _ _,K4.o.setNew _ (KK _) _⟩
 ·rw[hx]at hc
  obtain⟨f',rfl⟩:∃f',f=f'+1:=⟨f-1,by have:=eY s 12 (by decide) hx;omega⟩;have hl':ln (tl s)<=f':=by have:=eY s 12 (by decide) hx;omega
  rw[show bU (f'+1+1) s=(.list (bU (f'+1) (tl s)).1 (af (ak (bU (f'+1) (tl s)).2 (af (bU (f'+1) (tl s)).2 13)) 5),ec (ak (bU (f'+1) (tl s)).2 (af (bU (f'+1) (tl s)).2 13)) (af (ak (bU (f'+1) (tl s)).2 (af (bU (f'+1) (tl s)).2 13)) 5))from by rw[bU,K9 hx]];have ih:=fun W P h=>ih f' (by omega) W p b S G (tl s) hl' P h;generalize (bU (f'+1) (tl s)).1=ty at*;generalize (bU (f'+1) (tl s)).2=s1 at*;have H0:=aa h0;have HP0:=aa P0;have HN0:=aa N0;clear h0 P0 N0 hP h;go_enter func197,ntmps197;go_wp2_with fail;refine hc.mono ?_;clear hc;rintro e w1 ⟨rfl,h1,k1⟩;have P1:=HP0.o.keep H0.o k1;have N1:=k1.at HN0.o (by omega);have c1:=P1.c0;have f1:=ar N1 1;have c11:w1.cell? ⟨w.heap.size,1,none⟩=some (.int .i64 0):=ae N1 1;have h2:PS (w1.setCell ⟨w.heap.size,1,none⟩ (.int .i64 1)) b G (tl s):=h1.set (by omega) (by omega) 1 (.int .i64 1);have P2:=P1.set N1 (by decide) 1 (.int .i64 1);have N2:=aJ N1 1 (.int .i64 1);have K2:=aa ((K0.trans k1).setNew ⟨w.heap.size,1,none⟩ (KK _) (.int .i64 1));have hn:=ih _ P2 h2;have hpn:p≠w.heap.size:=by omega
  have hsz:=ag N1;have H2:=aa h2;have HP2:=aa P2;have HN2:=aa N2;clear H0 HP0 HN0 c0 k1 h1 P1 N1 h2 P2 N2 ih K0;go_wp2_with fail;refine hn.mono ?_;clear hn;rintro e w3 ⟨k,rfl,t3,h3,k3⟩;have P3:=HP2.o.keep H2.o k3;have N3:=k3.at HN2.o (by omega);have c3:=P3.c0;have f3:=ar N3 2;have c32:w3.cell? ⟨w.heap.size,2,none⟩=some (.pointer none):=ae N3 2;have hsz3:=ag N3;have t4:=(t3.mono (C:=w.heap.size+1) (by simp[World.setCell];omega)).stays (au.set (F:=w.heap.size) (by omega) 2 (.pointer (some ⟨k,0,none⟩)));have h4:=h3.set (F:=w.heap.size) (by omega) (by omega) 2 (.pointer (some ⟨k,0,none⟩));have P4:=P3.set N3 (by decide) 2 (.pointer (some ⟨k,0,none⟩));have N4:=aJ N3 2 (.pointer (some ⟨k,0,none⟩));have K4:=aa ((K2.o.trans k3).setNew ⟨w.heap.size,2,none⟩ (KK _) (.pointer (some ⟨k,0,none⟩)));have hm:=iG _ b G _ 13 h4;have HT4:=aa t4;have H4:=aa h4;have HP4:=aa P4;have HN4:=aa N4;clear K2 HP2 HN2 k3 h3 P3 N3 t3 t4 h4 P4 N4 c1 f1 c11 hsz H2;go_wp2_with fail;refine hm.mono ?_;clear hm;rintro e w5 ⟨rfl,h5,k5⟩;have P5:=HP4.o.keep H4.o k5;have N5:=k5.at HN4.o (by omega);have c5:=P5.c0;have ht:=mM _ b G _ 5 h5;have t5:=HT4.o.stays (H4.o.stay k5);have K5:=aa (K4.o.trans k5);have H5:=aa h5;have HN5:=aa N5;have HT5:=aa t5;clear K4 H4 HP4 HN4 k5 h5 P5 N5 t5 HT4 f3 c32 c3;go_wp2_with fail;refine ht.mono ?_;clear ht;rintro e w6 ⟨rfl,h6,k6⟩;have N6:=k6.at HN5.o (by omega);have f6:=ar N6 3;have c63:w6.cell? ⟨w.heap.size,3,none⟩=some (.bool false):=ae N6 3;have HT6:=aa (HT5.o.stays (H5.o.stay k6));have HN6:=aa N6;have H6:=aa h6;have K6:=aa (K5.o.trans k6);clear N6 HN5 h6 k6 K5 c5 H5 HT5;go_wp2_with fail;go_ret;exact⟨_,rfl,⟨_,_,rfl,KK _,aJ HN6.o 3 _,(HT6.o.stays (au.set (F:=w.heap.size) (Nat.lt_succ_self _) _ _)).mono (Nat.le_succ _)⟩,H6.o.set (F:=w.heap.size) (by omega) (by omega) _ _,K6.o.setNew _ (KK _) _⟩
end Go.Proofs.YtgbloieahmkcjaaGreat
