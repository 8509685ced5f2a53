import Derived.Test.YtgbloieahmkcjaaGreatC16
import Derived.Test.YtgbloieahmkcjaaGreatC22
namespace Go.Proofs.YtgbloieahmkcjaaGreat
set_option maxHeartbeats 20000000
set_option maxRecDepth 100000
open Go.RowKit Tryz
def mE(v:FV):Nat×Int×Ls:=(v.sh,v.n,v.s)
structure JE(w0:World)(b:Nat)(vR vN vV:Value)(LK vid:Ls)(Lu:List aj)(names:List Ls)(fvs:List FV)(E:lH):Prop where
 r:gZ w0 vR Lu
 rl:Lu.length<=801
 ri:(fQ Lu).length<=700000
 n:cH w0 vN names
 v:n7 w0 vV fvs
 nv:fvs.length=names.length
 nl:names.length<=1000000
 e:E=⟨ic Lu LK,fun n=>mE (bR names fvs n),vid⟩
 b:w0.heap.size<=b
section
variable {w0:World} {b:Nat} {L vR vN vV:Value} {ts:List Tk} {LK vid rid:Ls} {d:Int} {aD:Option Addr} {nD cD:Nat} {Lu:List aj} {names:List Ls} {fvs:List FV} {E:lH}
abbrev JG(W:World)(b:Nat)(L:Value)(ts:List Tk)(vR vN vV:Value)(LK vid rid:Ls)(d:Int)(aD:Option Addr)(nD cD:Nat)(s:St):Prop:=
 RG W b L ts [vR,.slice aD nD cD,.string LK,.string vid,.int .i64 d,.string rid,vN,vV] 188 s
abbrev JC(w0:World)(b:Nat)(L:Value)(ts:List Tk)(vR vN vV:Value)(LK vid rid:Ls)(d:Int)(aD:Option Addr)(nD cD:Nat)(F:Nat)(stop:List Tk->Prop)(e:List Tk)(q:Bool):Prop:=
 ∀(W:World) (rest:List Tk),stop rest->Lt w0 W->JG W b L ts vR vN vV LK vid rid d aD nD cD (some (e++rest))->
  Calls prog F #[.pointer (some ⟨b,0,none⟩)] W fun x w'=>x=.returned (.bool q)/\JG w' b L ts vR vN vV LK vid rid d aD nD cD (some rest)/\ai b W w'
theorem m7(x:Tk)(l:List Tk)(y:Ls):aq (some (x::l)) y=true↔dU x y:=by
 simp[aq,hd,dU];exact fun _=>⟨of_decide_eq_true,Le⟩
theorem jZ{x:Tk}{l:List Tk}{y:Ls}(h:¬dU x y):aq (some (x::l)) y=false:=by
 cases e:aq (some (x::l)) y
 ·rfl
 ·exact absurd ((m7 x l y).1 e) h
theorem t9{x:Tk}{y z:Ls}(h:dU x y)(hz:y≠z):¬dU x z:=fun q=>hz (h.2.symm.trans q.2)
theorem rq{x:Tk}{y:Ls}{K:Nat}(h:x.k=K)(hK:K≠1):¬dU x y:=fun q=>hK (h.symm.trans q.1)
def rZ(l:List Tk):Prop:=aq (some l) dy=false
def tC(l:List Tk):Prop:=aq (some l) dy=false/\aq (some l) dW=false
theorem FQ(hb:w0.heap.size<=b)(x:Tk)(e:List Tk)(t:aK)(hx:dU x dc)(ih:JC w0 b L ts vR vN vV LK vid rid d aD nD cD 156 (fun _=>True) e (cZ E t)):
 JC w0 b L ts vR vN vV LK vid rid d aD nD cD 156 (fun _=>True) (x::e) (cZ E (.not t)):=by
 intro W rest _ hB h;have hm:=pU dc ((m7 x (e++rest) dc).2 hx) h;rw[cZ];go_enter func156,ntmps156;go_wp2_with fail;refine hm.mono ?_;clear hm;rintro _ w1 ⟨rfl,h1,k1⟩;go_wp2_with fail;refine(ih w1 rest trivial (bK hB k1 hb) h1).mono ?_;rintro _ w2 ⟨rfl,h2,k2⟩;go_wp2_with fail;go_ret;exact⟨rfl,h2,k1.trans k2⟩
theorem Ew(x:Tk)(hx:dU x dX):JC w0 b L ts vR vN vV LK vid rid d aD nD cD 156 (fun _=>True) [x] (cZ E .all):=by
 intro W rest _ hB h;have hm:=kd dc (jZ (t9 hx (by decide))) h;rw[cZ];go_enter func156,ntmps156;go_wp2_with fail;refine hm.mono ?_;clear hm;rintro _ w1 ⟨rfl,h1,k1⟩;go_wp2_with fail;refine(pU dX ((m7 x rest dX).2 hx) h1).mono ?_;rintro _ w2 ⟨rfl,h2,k2⟩;go_wp2_with fail;go_ret;exact⟨rfl,h2,k1.trans k2⟩
theorem Kn(hJ:JE w0 b vR vN vV LK vid Lu names fvs E)(x y:Tk)(hx:dU x cm)(hy:y.k=1):JC w0 b L ts vR vN vV LK vid rid d aD nD cD 156 (fun _=>True) [x,y] (cZ E (.is y.s)):=by
 intro W rest _ hB h;have hm:=kd dc (jZ (t9 hx (by decide))) h;have hE:cZ E (.is y.s)=ic Lu LK y.s:=by rw[cZ,hJ.e]
 rw[hE];clear hE;have hnm:nm (some (y::rest))=y.s:=by simp[nm,af,hd,hy]
 have hnt:ab (some (y::rest))=some rest:=by simp[ab,af,hd,hy,tl]
 obtain⟨aR,cR,rfl,_⟩:=id hJ.r;go_enter func156,ntmps156;go_wp2_with fail;refine hm.mono ?_;clear hm;rintro _ w1 ⟨rfl,h1,k1⟩;go_wp2_with fail;refine(kd dX (jZ (t9 hx (by decide))) h1).mono ?_;rintro _ w2 ⟨rfl,h2,k2⟩;go_wp2_with fail;refine(pU cm ((m7 x (y::rest) cm).2 hx) h2).mono ?_;rintro _ w3 ⟨rfl,h3,k3⟩;have hn:=uu (s:=some (y::rest)) h3;rw[hnm,hnt]at hn;go_wp2_with fail;refine hn.mono ?_;rintro _ w4 ⟨rfl,h4,k4⟩;have k:=((k1.trans k2).trans k3).trans k4;have HC:=aa (fun W (hW:Lt w4 W)=>wm aD nD cD (.slice aR Lu.length cR) LK y.s Lu W (hJ.r.below (bT (bK hB k hJ.b) hW)) hJ.rl hJ.ri);obtain⟨a,bad,q1,_⟩:=h4.st;have c:=ae q1;clear hn k1 k2 k3 k4 h1 h2 h3 q1;go_wp2_with fail;go_region_with (go_at_call 51;refine(HC.o _ ?_).mono ?_;(first|exact(KL _ _).drew|exact KL _ _);rintro _ w5 ⟨rfl,b5⟩);all_goals(try go_wp2_with fail)
 all_goals(go_ret;exact⟨rfl,h4.below ((KL _ _).drew.trans b5),k.trans (ai.of_below ((KL _ _).drew.trans b5))⟩)
theorem DB(hb:w0.heap.size<=b)(x z:Tk)(e:List Tk)(l:List aK)(hx:x.k=7)(hz:z.k=8)(ih:JC w0 b L ts vR vN vV LK vid rid d aD nD cD 90 tC e (cZ E (.chain true l))):
 JC w0 b L ts vR vN vV LK vid rid d aD nD cD 156 (fun _=>True) (x::(e++[z])) (cZ E (.chain true l)):=by
 intro W rest _ hB h;have hm:=kd dc (jZ (rq hx (by decide))) h;go_enter func156,ntmps156;go_wp2_with fail;refine hm.mono ?_;clear hm;rintro _ w1 ⟨rfl,h1,k1⟩;go_wp2_with fail;refine(kd dX (jZ (rq hx (by decide))) h1).mono ?_;rintro _ w2 ⟨rfl,h2,k2⟩;go_wp2_with fail;refine(kd cm (jZ (rq hx (by decide))) h2).mono ?_;rintro _ w3 ⟨rfl,h3,k3⟩;have hn:=xd (s:=some (x::(e++z::rest))) 7 ⟨#[40]⟩ (by decide) (by decide) (by decide) (by simpa using h3);rw[show af (some (x::(e++z::rest))) 7=true from by simp[af,hd,hx]]at hn;go_wp2_with fail;refine hn.mono ?_;rintro _ w4 ⟨rfl,h4,k4⟩;have k:=((k1.trans k2).trans k3).trans k4;clear hn k1 k2 k3 k4 h1 h2 h3;go_wp2_with fail;refine(ih w4 (z::rest) ⟨jZ (rq hz (by decide)),jZ (rq hz (by decide))⟩ (bK hB k hb) h4).mono ?_;rintro _ w5 ⟨rfl,h5,k5⟩;have hn:=wI 8 ⟨#[41]⟩ (by decide) (by decide) (by decide) h5;rw[show af (some (z::rest)) 8=true from by simp[af,hd,hz]]at hn;go_wp2_with fail;refine hn.mono ?_;rintro _ w6 ⟨rfl,h6,k6⟩;go_wp2_with fail;go_ret;exact⟨rfl,h6,(k.trans k5).trans k6⟩
theorem Aq(c v:FV):decide (mE c=mE v)=(((c.sh:Int)==(v.sh:Int))&&((c.n==v.n)&&(c.s.toList==v.s.toList))):=by
 rw[bY,Bool.eq_iff_iff];simp[mE];omega
theorem Ia(hJ:JE w0 b vR vN vV LK vid Lu names fvs E)(x z u:Tk)(hx:x.k=1)(x1:x.s≠dc)(x2:x.s≠dX)(x3:x.s≠cm)(hz:z.k=10)(hu:dU u eV):
 JC w0 b L ts vR vN vV LK vid rid d aD nD cD 156 (fun _=>True) [x,z,u] (cZ E (.eq x.s none)):=by
 intro W rest _ hB h;have hm:=kd dc (jZ (fun q=>x1 q.2)) h;have HE:=aa (show cZ E (.eq x.s none)=(((bR names fvs x.s).sh:Int)==(2:Int)&&((bR names fvs x.s).n==0&&((bR names fvs x.s).s.toList==vid.toList)))from by rw[cZ,hJ.e];exact Aq (bR names fvs x.s) (⟨2,0,vid,none,0,0⟩:FV));generalize cZ E (.eq x.s none)=q at*;go_enter func156,ntmps156;go_wp2_with fail;refine hm.mono ?_;clear hm;rintro _ w1 ⟨rfl,h1,k1⟩;go_wp2_with fail;refine(kd dX (jZ (fun q=>x2 q.2)) h1).mono ?_;rintro _ w2 ⟨rfl,h2,k2⟩;go_wp2_with fail;refine(kd cm (jZ (fun q=>x3 q.2)) h2).mono ?_;rintro _ w3 ⟨rfl,h3,k3⟩;have hn:=xd (s:=some (x::z::u::rest)) 7 ⟨#[40]⟩ (by decide) (by decide) (by decide) h3;rw[show af (some (x::z::u::rest)) 7=false from by simp[af,hd,hx]]at hn;go_wp2_with fail;refine hn.mono ?_;rintro _ w4 ⟨rfl,h4,k4⟩;have hn:=uu (s:=some (x::z::u::rest)) h4;rw[show nm (some (x::z::u::rest))=x.s from by simp[nm,af,hd,hx],show ab (some (x::z::u::rest))=some (z::u::rest)from by simp[ab,af,hd,hx,tl]]at hn;go_wp2_with fail;refine hn.mono ?_;rintro _ w5 ⟨rfl,h5,k5⟩;have hn:=wI (s:=some (z::u::rest)) 10 ⟨#[61]⟩ (by decide) (by decide) (by decide) h5;rw[show af (some (z::u::rest)) 10=true from by simp[af,hd,hz]]at hn;go_wp2_with fail;refine hn.mono ?_;rintro _ w6 ⟨rfl,h6,k6⟩;have k:=((((k1.trans k2).trans k3).trans k4).trans k5).trans k6;obtain⟨a,bad,q1,_⟩:=h6.st;have c:=ae q1;have hl:=h6.lt;clear hn k1 k2 k3 k4 k5 k6 h1 h2 h3 h4 h5 q1;go_wp2_with fail;refine(pU (s:=some (u::rest)) eV ((m7 u rest eV).2 hu) (h6.below (bA (KL _ _) _))).mono ?_;rintro _ w7 ⟨rfl,h7,k7⟩;have hV:=k7.at (KS w6 (.cells #[.int .i64 2,.int .i64 0,.string vid,.slice none 0 0] 119)) (by omega);have k:=(k.alloc (.cells #[.int .i64 2,.int .i64 0,.string vid,.slice none 0 0] 119)).trans k7;have HC:=aa (fun W (hW:Lt w7 W)=>zL d rid x.s vN vV names fvs W (hJ.n.below (bT (bK hB k hJ.b) hW)) (hJ.v.below (bT (bK hB k hJ.b) hW)) hJ.nv hJ.nl);obtain⟨a,bad,q1,_⟩:=h7.st;have c:=ae q1;have cv:=ae hV;have hlv:=ag hV;have HH:=aa h7;clear k7 q1 hV h7 h6 hl h;go_wp2_with fail;refine(HC.o _ (KL _ _)).mono ?_;rintro _ w8 ⟨rfl,b8⟩;have cv8:∀i,w8.cell? ⟨w6.heap.size,i,none⟩=_:=fun i=>(b8.cell (p:=⟨w6.heap.size,i,none⟩) hlv).trans (cv i);have HFV:=aa (show bw (bR names fvs x.s)=.agg #[.int .i64 (bR names fvs x.s).sh,.int .i64 (bR names fvs x.s).n,.string (bR names fvs x.s).s,.slice (bR names fvs x.s).la (bR names fvs x.s).ln (bR names fvs x.s).lc]from rfl);rw[HFV.o];have hl8:w6.heap.size<w8.heap.size:=KV hlv b8.size;have hb8:=bA b8 (.cells #[.int .i64 (bR names fvs x.s).sh,.int .i64 (bR names fvs x.s).n,.string (bR names fvs x.s).s,.slice (bR names fvs x.s).la (bR names fvs x.s).ln (bR names fvs x.s).lc] 119);have FIN:=aa (And.intro (HH.o.below hb8) (k.trans (ai.of_below hb8)));clear HC cv c hb8 b8 HFV;generalize bR names fvs x.s=cv at*;cases e1:((cv.sh:Int)==(2:Int))<;>cases e2:(cv.n==(0:Int))<;>rw[e1,e2]at HE;all_goals(go_wp2_with fail)
 all_goals(go_ret;exact⟨am (by rw[HE.o];rfl),FIN.o⟩)
theorem Kp(hJ:JE w0 b vR vN vV LK vid Lu names fvs E)(x z u:Tk)(hx:x.k=1)(x1:x.s≠dc)(x2:x.s≠dX)(x3:x.s≠cm)(hz:z.k=10)(hu:¬dU u eV)(hlit:dN (some [u])=true):
 JC w0 b L ts vR vN vV LK vid rid d aD nD cD 156 (fun _=>True) [x,z,u] (cZ E (.eq x.s (some (od u)))):=by
 intro W rest _ hB h;have hm:=kd dc (jZ (fun q=>x1 q.2)) h;have HE:=aa (show cZ E (.eq x.s (some (od u)))=(((bR names fvs x.s).sh:Int)==((br (some [u])).sh:Int)&&((bR names fvs x.s).n==(br (some [u])).n&&((bR names fvs x.s).s.toList==(br (some [u])).s.toList)))from by rw[cZ,hJ.e];exact Aq (bR names fvs x.s) (br (some [u])));have HF:=aa (show bw (br (some [u]))=.agg #[.int .i64 (br (some [u])).sh,.int .i64 (br (some [u])).n,.string (br (some [u])).s,.slice (br (some [u])).la (br (some [u])).ln (br (some [u])).lc]from rfl);generalize cZ E (.eq x.s (some (od u)))=q at*;go_enter func156,ntmps156;go_wp2_with fail;refine hm.mono ?_;clear hm;rintro _ w1 ⟨rfl,h1,k1⟩;go_wp2_with fail;refine(kd dX (jZ (fun q=>x2 q.2)) h1).mono ?_;rintro _ w2 ⟨rfl,h2,k2⟩;go_wp2_with fail;refine(kd cm (jZ (fun q=>x3 q.2)) h2).mono ?_;rintro _ w3 ⟨rfl,h3,k3⟩;have hn:=xd (s:=some (x::z::u::rest)) 7 ⟨#[40]⟩ (by decide) (by decide) (by decide) h3;rw[show af (some (x::z::u::rest)) 7=false from by simp[af,hd,hx]]at hn;go_wp2_with fail;refine hn.mono ?_;rintro _ w4 ⟨rfl,h4,k4⟩;have hn:=uu (s:=some (x::z::u::rest)) h4;rw[show nm (some (x::z::u::rest))=x.s from by simp[nm,af,hd,hx],show ab (some (x::z::u::rest))=some (z::u::rest)from by simp[ab,af,hd,hx,tl]]at hn;go_wp2_with fail;refine hn.mono ?_;rintro _ w5 ⟨rfl,h5,k5⟩;have hn:=wI (s:=some (z::u::rest)) 10 ⟨#[61]⟩ (by decide) (by decide) (by decide) h5;rw[show af (some (z::u::rest)) 10=true from by simp[af,hd,hz]]at hn;go_wp2_with fail;refine hn.mono ?_;rintro _ w6 ⟨rfl,h6,k6⟩;have k:=((((k1.trans k2).trans k3).trans k4).trans k5).trans k6;have hs0:=k.size;obtain⟨a,bad,q1,_⟩:=h6.st;have c:=ae q1;have hl:=h6.lt;clear hn k1 k2 k3 k4 k5 k6 h1 h2 h3 h4 h5 q1;go_wp2_with fail;refine(kd (s:=some (u::rest)) eV (jZ hu) (h6.below (bA (KL _ _) _))).mono ?_;rintro _ w7 ⟨rfl,h7,k7⟩;have hV:=k7.at (KS w6 (.cells #[.int .i64 2,.int .i64 0,.string vid,.slice none 0 0] 119)) (by omega);have k:=(k.alloc (.cells #[.int .i64 2,.int .i64 0,.string vid,.slice none 0 0] 119)).trans k7;have hp:=Be h7;rw[show dN (some (u::rest))=true from hlit,show br (some (u::rest))=br (some [u])from rfl,HF.o]at hp;generalize br (some [u])=lv at*;clear c;go_wp2_with fail;refine hp.mono ?_;clear hp;rintro _ w9 ⟨rfl,h9,k9⟩;have hV9:=k9.at hV (by omega);have c9:=ae hV9;have f9:=ar hV9;have hl9:=ag hV9;have hb9:=h9.lt;have hs6:w6.heap.size<w9.heap.size:=hl9;obtain⟨a9,bad9,q9,_⟩:=id h9.st;have cb:=ae q9;have k9:=k.trans k9;have kX:ai b W ((((w9.setCell ⟨w6.heap.size,0,none⟩ (.int .i64 lv.sh)).setCell ⟨w6.heap.size,1,none⟩ (.int .i64 lv.n)).setCell ⟨w6.heap.size,2,none⟩ (.string lv.s)).setCell ⟨w6.heap.size,3,none⟩ (.slice lv.la lv.ln lv.lc)):=by
  repeat' with_reducible first|exact k9|refine ai.setNew ?_ _ (show W.heap.size<=w6.heap.size by omega) _
 have hXV:=rD hV9 (.int .i64 lv.sh) (.int .i64 lv.n) (.string lv.s) (.slice lv.la lv.ln lv.lc);have hXb:=fD w9 w6.heap.size b (by omega) (.int .i64 lv.sh) (.int .i64 lv.n) (.string lv.s) (.slice lv.la lv.ln lv.lc);have hX:=h9.move h kX hXb;clear hV hV9 h7 k7 q9 h6 hl;go_wp2_with fail;generalize ((((w9.setCell ⟨w6.heap.size,0,none⟩ (.int .i64 lv.sh)).setCell ⟨w6.heap.size,1,none⟩ (.int .i64 lv.n)).setCell ⟨w6.heap.size,2,none⟩ (.string lv.s)).setCell ⟨w6.heap.size,3,none⟩ (.slice lv.la lv.ln lv.lc))=X at*;have hlv:=ag hXV;have cv:=ae hXV;have HH:=aa (show RG X b L ts _ 188 (some rest)from hX);have k:=kX;have c:=cb;have HC:=aa (fun W (hW:Lt X W)=>zL d rid x.s vN vV names fvs W (hJ.n.below (bT (bK hB kX hJ.b) hW)) (hJ.v.below (bT (bK hB kX hJ.b) hW)) hJ.nv hJ.nl);clear hX hXV hXb kX cb k9 h9 c9 f9 hl9 hb9 h;refine(HC.o _ (KL _ _)).mono ?_;rintro _ w8 ⟨rfl,b8⟩;have cv8:∀i,w8.cell? ⟨w6.heap.size,i,none⟩=_:=fun i=>(b8.cell (p:=⟨w6.heap.size,i,none⟩) hlv).trans (cv i);have HFV:=aa (show bw (bR names fvs x.s)=.agg #[.int .i64 (bR names fvs x.s).sh,.int .i64 (bR names fvs x.s).n,.string (bR names fvs x.s).s,.slice (bR names fvs x.s).la (bR names fvs x.s).ln (bR names fvs x.s).lc]from rfl);rw[HFV.o];have hl8:w6.heap.size<w8.heap.size:=KV hlv b8.size;have hb8:=bA b8 (.cells #[.int .i64 (bR names fvs x.s).sh,.int .i64 (bR names fvs x.s).n,.string (bR names fvs x.s).s,.slice (bR names fvs x.s).la (bR names fvs x.s).ln (bR names fvs x.s).lc] 119);have FIN:=aa (And.intro (HH.o.below hb8) (k.trans (ai.of_below hb8)));clear HC cv c hb8 b8 HFV;generalize bR names fvs x.s=cv at*;cases e1:((cv.sh:Int)==(lv.sh:Int))<;>cases e2:(cv.n==lv.n)<;>rw[e1,e2]at HE;all_goals(go_wp2_with fail)
 all_goals(go_ret;exact⟨am (by rw[HE.o];rfl),FIN.o⟩)
theorem iP.first{word:Ls}{C:List Tk->aK->Prop}{e:List Tk}{l:List aK}(h:iP word C e l):∃e1 t1 e2 l2,e=e1++e2/\l=t1::l2/\C e1 t1/\((e2=[]/\l2=[])\/∃x e3,e2=x::e3/\dU x word/\iP word C e3 l2):=by
 cases h with
 |one e t h=>exact⟨e,t,[],[],by simp,rfl,h,Or.inl ⟨rfl,rfl⟩⟩
 |cons x e e' t l hx h hp=>exact⟨e,t,x::e',l,rfl,rfl,h,Or.inr ⟨x,e',rfl,hx,hp⟩⟩
end
section
variable {w0:World} {b:Nat} {L vR vN vV:Value} {ts:List Tk} {LK vid rid:Ls} {d:Int} {aD:Option Addr} {nD cD:Nat} {Lu:List aj} {names:List Ls} {fvs:List FV} {E:lH}
theorem Do(hb:w0.heap.size<=b)(e:List Tk)(l:List aK)(hp:iP dy (fun e t=>JC w0 b L ts vR vN vV LK vid rid d aD nD cD 156 (fun _=>True) e (cZ E t)) e l):JC w0 b L ts vR vN vV LK vid rid d aD nD cD 122 rZ e (cZ E (.chain false l)):=by
 intro W rest hst hB h;rw[cZ];obtain⟨e1,t1,e2,l2,rfl,rfl,hc,hr⟩:=hp.first;rw[List.append_assoc]at h;rw[mo];clear hp;obtain⟨l2',hl2⟩:∃l2',l2'=l2:=⟨_,rfl⟩;rw[<-hl2];generalize cZ E t1=q1 at*;go_enter func122,ntmps122;go_wp2_with fail;refine(hc W (e2++rest) trivial hB h).mono ?_;rintro _ w1 ⟨rfl,h1,k1⟩;go_wp2_with fail;go_loopg [3,4,5] e2.length (fun k v2 v3 v4 wr=>∃(o:Bool) (e2:List Tk) (l2:List aK),v2=.bool o/\e2.length<=k/\JG wr b L ts vR vN vV LK vid rid d aD nD cD (some (e2++rest))/\ai b W wr/\(o&&mo E l2)=(q1&&mo E l2')/\((e2=[]/\l2=[])\/∃x e3,e2=x::e3/\dU x dy/\iP dy (fun e t=>JC w0 b L ts vR vN vV LK vid rid d aD nD cD 156 (fun _=>True) e (cZ E t)) e3 l2))
 case atStart=>exact⟨q1,e2,l2,rfl,KK _,h1,k1,by rw[hl2],hr⟩
 case round=>
  clear hc h h1 k1 hr hl2;obtain⟨o,e2,l2,rfl,hk,h1,k1,hq,hr⟩:=hrel;have HQ:=aa hq;clear hq;rcases hr with⟨rfl,rfl⟩|⟨x,e3,rfl,hx,hp⟩
  ·go_wp2_with fail
   refine(kd dy hst h1).mono ?_;rintro _ w2 ⟨rfl,h2,k2⟩;go_wp2_with fail;go_ret;exact⟨am (by rw[<-HQ.o,mo];simp),h2,k1.trans k2⟩
  ·go_wp2_with fail
   refine(pU dy ((m7 x (e3++rest) dy).2 hx) h1).mono ?_;rintro _ w2 ⟨rfl,h2,k2⟩;obtain⟨e1,t1,e2,l2,rfl,rfl,hc,hr⟩:=hp.first;have h3:JG w2 b L ts vR vN vV LK vid rid d aD nD cD (some (e1++(e2++rest))):=by rw[<-List.append_assoc];exact h2
   have hqq:=HQ.o;rw[mo]at hqq;clear hp h2 HQ;generalize cZ E t1=q2 at*;go_wp2_with fail;refine(hc w2 (e2++rest) trivial (bK hB (k1.trans k2) hb) h3).mono ?_;rintro _ w3 ⟨rfl,h4,k4⟩;have HQ2:=aa hqq;have HR:=aa hr;clear hc h3 hqq hr;cases o;all_goals(go_wp2_with fail)
   all_goals(go_roundg e2.length)
   all_goals first
   |(case measure=>simp at hk;omega)
   |(case rel=>exact⟨_,e2,l2,rfl,KK _,h4,(k1.trans k2).trans k4,by rw[<-HQ2.o];simp,HR.o⟩)
theorem Am{C:List Tk->aK->Prop}{e2 rest:List Tk}{l2:List aK}(hr:(e2=[]/\l2=[])\/∃x e3,e2=x::e3/\dU x dW/\iP dW C e3 l2)(hst:tC rest):rZ (e2++rest):=by
 rcases hr with⟨rfl,_⟩|⟨x,e3,rfl,hx,_⟩
 ·exact hst.1
 ·exact jZ (t9 hx (by decide))
theorem xO(hb:w0.heap.size<=b)(e:List Tk)(l:List aK)(hp:iP dW (fun e t=>JC w0 b L ts vR vN vV LK vid rid d aD nD cD 122 rZ e (cZ E t)) e l):JC w0 b L ts vR vN vV LK vid rid d aD nD cD 90 tC e (cZ E (.chain true l)):=by
 intro W rest hst hB h;rw[cZ];obtain⟨e1,t1,e2,l2,rfl,rfl,hc,hr⟩:=hp.first;rw[List.append_assoc]at h;rw[mK];clear hp;obtain⟨l2',hl2⟩:∃l2',l2'=l2:=⟨_,rfl⟩;rw[<-hl2];generalize cZ E t1=q1 at*;go_enter func90,ntmps90;go_wp2_with fail;refine(hc W (e2++rest) (Am hr hst) hB h).mono ?_;rintro _ w1 ⟨rfl,h1,k1⟩;go_wp2_with fail;go_loopg [3,4,5] e2.length (fun k v2 v3 v4 wr=>∃(o:Bool) (e2:List Tk) (l2:List aK),v2=.bool o/\e2.length<=k/\JG wr b L ts vR vN vV LK vid rid d aD nD cD (some (e2++rest))/\ai b W wr/\(o||mK E l2)=(q1||mK E l2')/\((e2=[]/\l2=[])\/∃x e3,e2=x::e3/\dU x dW/\iP dW (fun e t=>JC w0 b L ts vR vN vV LK vid rid d aD nD cD 122 rZ e (cZ E t)) e3 l2))
 case atStart=>exact⟨q1,e2,l2,rfl,KK _,h1,k1,by rw[hl2],hr⟩
 case round=>
  clear hc h h1 k1 hr hl2;obtain⟨o,e2,l2,rfl,hk,h1,k1,hq,hr⟩:=hrel;have HQ:=aa hq;clear hq;rcases hr with⟨rfl,rfl⟩|⟨x,e3,rfl,hx,hp⟩
  ·go_wp2_with fail
   refine(kd dW hst.2 h1).mono ?_;rintro _ w2 ⟨rfl,h2,k2⟩;go_wp2_with fail;go_ret;exact⟨am (by rw[<-HQ.o,mK];simp),h2,k1.trans k2⟩
  ·go_wp2_with fail
   refine(pU dW ((m7 x (e3++rest) dW).2 hx) h1).mono ?_;rintro _ w2 ⟨rfl,h2,k2⟩;obtain⟨e1,t1,e2,l2,rfl,rfl,hc,hr⟩:=hp.first;have h3:JG w2 b L ts vR vN vV LK vid rid d aD nD cD (some (e1++(e2++rest))):=by rw[<-List.append_assoc];exact h2
   have hqq:=HQ.o;rw[mK]at hqq;clear hp h2 HQ;generalize cZ E t1=q2 at*;go_wp2_with fail;refine(hc w2 (e2++rest) (Am hr hst) (bK hB (k1.trans k2) hb) h3).mono ?_;rintro _ w3 ⟨rfl,h4,k4⟩;have HQ2:=aa hqq;have HR:=aa hr;clear hc h3 hqq hr;cases o;all_goals(go_wp2_with fail)
   all_goals(go_roundg e2.length)
   all_goals first
   |(case measure=>simp at hk;omega)
   |(case rel=>exact⟨_,e2,l2,rfl,KK _,h4,(k1.trans k2).trans k4,by rw[<-HQ2.o];simp,HR.o⟩)
end
theorem Km{w0:World}{b:Nat}{L vR vN vV:Value}{ts:List Tk}{LK vid rid:Ls}{d:Int}{aD:Option Addr}{nD cD:Nat}{Lu:List aj}{names:List Ls}{fvs:List FV}{E:lH}
 (hJ:JE w0 b vR vN vV LK vid Lu names fvs E) {e:List Tk} {l:List aK} (h:dn 2 e l):JC w0 b L ts vR vN vV LK vid rid d aD nD cD 90 tC e (cZ E (.chain true l)):=
 xO hJ.b e l ((h.parts (U:=fun e t=>JC w0 b L ts vR vN vV LK vid rid d aD nD cD 156 (fun _=>True) e (cZ E t)) (C:=fun e t=>JC w0 b L ts vR vN vV LK vid rid d aD nD cD 122 rZ e (cZ E t))
  (FQ hJ.b) Ew (Kn hJ) (fun x z e l hx hz hp=>DB hJ.b x z e l hx hz (xO hJ.b e l hp)) (Ia hJ) (Kp hJ) (Do hJ.b)).2.2 rfl)
def pE(LC:Bool)(E:lH)(l:List aK):Bool:=LC&&!cZ E (.chain true l)
theorem JR(w:World)(aD:Option Addr)(cD k:Nat)(vR vN vV:Value)(LK vid rid:Ls)(Lu:List aj)(Lv:List ap)(d:ap)(names:List Ls)(fvs:List FV)(l:List aK)
 (hD:i5 w (.slice aD Lv.length cD) Lv) (hk:Lv[k]?=some d) (_hdl:Lv.length<=100000) (hR:gZ w vR Lu) (hrl:Lu.length<=801) (hri:(fQ Lu).length<=700000)
 (hN:cH w vN names) (hV:n7 w vV fvs) (hnv:fvs.length=names.length) (hnl:names.length<=1000000) (htk:∀t∈d.Lw,io t) (hrule:d.Lw.length<=801) (hg:d.LC=true->dn 2 d.Lw l):
 Calls prog 50 #[.agg #[vR,.slice aD Lv.length cD],.agg #[.int .i64 k,.string rid,vN,vV],.agg #[.string LK,.string vid]] w fun e w'=>e=.returned (.bool (pE d.LC ⟨ic Lu LK,fun n=>mE (bR names fvs n),vid⟩ l))/\Lt w w':=by
 obtain⟨g,aF,cF,aA,cA,aT,cT,rfl,d0,d1,d2,d3,d4,d5,hd⟩:=hD.at hk;have hkl:=(KO.1 hk).1;obtain⟨aR,cR,rfl,_⟩:=id hR;obtain⟨aN,cN,rfl,_⟩:=id hN;obtain⟨aV,cV,rfl,_⟩:=id hV;have hgl:g<w.heap.size:=KQ w _ d0;have hg1:g<w.heap.size+1:=by omega
 have hg2:g<w.heap.size+1+1:=by omega
 have HD:=aa hd;have HR:=aa hR;have HN:=aa hN;have HV:=aa hV;clear hD hd hR hN hV;unfold pE;cases hru:d.LC
 ·rw[hru]at d4
  simp only[Bool.false_and];clear hru hg;go_enter func50,ntmps50;go_wp2_with fail;go_ret;refine⟨rfl,?_⟩;repeat' with_reducible first|exact KL _ _|refine bA ?_ _
 ·rw[hru]at d4
  simp only[Bool.true_and];have hG:=hg hru;have key:∀X b,b=X.heap.size->Lt w X->Calls prog 90 #[.pointer (some ⟨b,0,none⟩)] (X.alloc (.cells #[.slice aT d.Lw.length cT,.int .i64 0,.bool false,.int .i64 0,.slice aR Lu.length cR,.slice (some ⟨g,0,none⟩) Lv.length cD,.string LK,.string vid,.int .i64 k,.string rid,.slice aN names.length cN,.slice aV names.length cV] 188)) fun e w'=>e=.returned (.bool (cZ ⟨ic Lu LK,fun n=>mE (bR names fvs n),vid⟩ (.chain true l)))/\Lt w w':=by
   rintro X b rfl hX;have hV':n7 w (.slice aV names.length cV) fvs:=by rw[<-hnv];exact HV.o
   refine(Km (rid:=rid) (d:=k) (aD:=some ⟨g,0,none⟩) (nD:=Lv.length) (cD:=cD) (⟨HR.o,hrl,hri,HN.o,hV',hnv,hnl,rfl,hX.size⟩:JE w X.heap.size _ _ _ LK vid Lu names fvs _) hG (X.alloc _) [] ⟨rfl,rfl⟩ (bA hX _) ⟨⟨0,false,KS _ _,KU _,by simp⟩,HD.o.r.below (bA hX _),hrule,htk,by decide⟩).mono ?_;rintro _ w1 ⟨rfl,_,k1⟩;exact⟨rfl,bK (bA hX _) k1 hX.size⟩
  generalize cZ ⟨ic Lu LK,fun n=>mE (bR names fvs n),vid⟩ (.chain true l)=q at*;clear hru hg hG;go_enter func50,ntmps50;go_wp2_with fail;refine(key _ _ (by simp) (by repeat' with_reducible first|exact KL _ _|refine bA ?_ _)).mono ?_;rintro _ w1 ⟨rfl,b1⟩;go_wp2_with fail;go_ret;exact⟨rfl,b1⟩
end Go.Proofs.YtgbloieahmkcjaaGreat
