import Derived.Test.YtadneapobijejaaGreatDoorC42
import Derived.Test.YtadneapobijejaaGreatDoorC41
import Derived.Test.YtadneapobijejaaGreatDoorC35
namespace Go.Proofs.YtadneapobijejaaGreatDoor
set_option maxHeartbeats 20000000
set_option maxRecDepth 100000
open Go.RowKit Tryz
structure MX(w0:World)(S:Nat)(vR vO vI vU vN:Value)(LR:List (At×Value))(LO:List AV)(LI:List (As×Value))(LU:List (Au×Value))(names:List vD)(T Mm gO Bs V:Nat)(vL:Value)(qs:List AE)(rows:List (vD×MR))(vid:vD)(roles:List vD)(Bq:Nat)(pp:List Nat)(whole:Nat)(m:List Bool)(E:AJ):Prop where
 s:SV w0 S vR vO vI vU vN LR LO LI LU names
 g:∃c,vO=.slice (some ⟨gO,0,none⟩) LO.length c
 v:DM w0 V vid roles
 t:IF w0 T S Mm gO Bs LO vL qs rows
 p:Bh w0 Bq pp 0 E.parts
 n:pp.length=E.parts.length
 sl:∀P∈E.parts,P.sels.length<=1000
 ks:∀P∈E.parts,∀x∈P.sels,x.key.size<=4000
 ag:∀P∈E.parts,∀x∈P.sels,∀a∈x.args,a.2.2.2.size<=4000
 pl:E.parts.length<=2000
 eo:E.objs=LO.map Prod.fst
 ei:E.ifs=LI.map Prod.fst
 eu:E.uns=LU.map Prod.fst
 en:E.names=names
 er:E.roles=roles
 ew:E.row=Eg (LO.map Prod.fst) roles vid rows
 ok:Ms E whole m
 sz:Ia E
 it:Gz w0
 ns:∀x∈names,x.size<=100000
 fs:∀typ fs,DU (LO.map Prod.fst) (LI.map Prod.fst) typ=some fs->fs≠[]/\∀f∈fs,f.name.size<=100000
structure Ha(w0 w:World)(gO:Nat)(LO:List AV)(g o:Nat)(l:List BR)(r:MR):Prop where
 a:∀X,FT w0.heap.size kM w X->Gf X gO LO g o l r
 v:∀n,AX w0 (fun g=>g<w0.heap.size) 1603 (EC l n) (Fm r n)
theorem Ha.ft{w0 w X:World}{gO g o:Nat}{LO:List AV}{l:List BR}{r:MR}(h:Ha w0 w gO LO g o l r)(hf:FT w0.heap.size kM w X):Ha w0 X gO LO g o l r:=⟨fun Y hY=>h.a Y (hf.trans hY),h.v⟩
theorem Ha.of{w0 w:World}{gO g o:Nat}{LO:List AV}{l:List BR}{r:MR}(h:Gf w0 gO LO g o l r)(hb:vE w0 w):Ha w0 w gO LO g o l r:=⟨fun _ hX=>h.below (hb.trans hX.below),fun n=>h.cont n⟩
def JI(w0:World)(gO:Nat)(LO:List AV)(T V:Nat)(pp:List Nat)(whole:Nat)(m:List Bool)(E:AJ)(M f:Nat):Prop:=
 ∀(w:World) (s:Aj) (r:MR) (ps:List Nat) (vps:Value) (g o B2:Nat) (l:List BR),vE w0 w->MK w w0.heap.size M T V pp.length s->RB 0 0 s->0<=s.left->s.left<f->Ha w0 w gO LO g o l r->Jm E r->Ei r->Mt E whole m r ps->ps.length<=10000000->w.ownsRow B2 89 1 vps ps.length (Bw pp ps)->
  Calls prog 51 #[.pointer (some ⟨M,0,none⟩),.pointer (some ⟨g,o,none⟩),vps] w (AQ w w0.heap.size M T V pp.length (.int .i64 (AR E f r ps s).1) (AR E f r ps s).2)
section
variable {w0:World} {gO:Nat} {LO:List AV} {T V:Nat} {pp:List Nat} {whole:Nat} {m:List Bool} {E:AJ} {M f:Nat}
theorem VI(hO:JI w0 gO LO T V pp whole m E M f){w:World}{s:Aj}{ro:Option MR}{q:Option Addr}{ps:List Nat}{vps:Value}{B2:Nat}(hb:vE w0 w)(hM:MK w w0.heap.size M T V pp.length s)(hr:RB 0 0 s)(h0:0<=s.left)(hf:s.left<f)(hp0:s.path≠[])(hq:Ks w0 gO LO q ro)(hro:∀r,ro=some r->Jm E r/\Ei r/\Mt E whole m r ps)(hpl:ps.length<=10000000)(hv:w.ownsRow B2 89 1 vps ps.length (Bw pp ps)):
 Calls prog 185 #[.pointer (some ⟨M,0,none⟩),.pointer q,vps] w (AQ w w0.heap.size M T V pp.length (.int .i64 (Fb (AR E f) ro ps s).1) (Fb (AR E f) ro ps s).2):=by
 have hrm:=hr.room (by omega) (by omega);cases ro with
 |none=>
  have e:q=none:=hq;subst e;exact kO hM hrm.e hrm.p hp0 hb.size
 |some r=>
  obtain⟨g,o,l,rfl,hrow⟩:=hq;obtain⟨r1,r2,r3⟩:=hro r rfl;exact kS (hO w s r ps vps g o B2 l hb hM hr h0 hf (Ha.of hrow hb) r1 r2 r3 hpl hv)
end
theorem Bu.st{w:World}{B:Nat}{v:Value}{t:Bo}(h:Bu w B v t):∃k,v=.pointer (some ⟨k,0,none⟩)/\k<w.heap.size/\w.cell? ⟨k,3,none⟩=some (.bool (CA t)):=by
 cases t with
 |one n st=>
  obtain⟨k,h1,_,h3⟩:=h;exact⟨k,h1,Ab h3,Ac h3 3⟩
 |list t st=>
  obtain⟨k,u,h1,_,h3,_⟩:=h;exact⟨k,h1,Ab h3,Ac h3 3⟩
def SQ(w0:World)(T V:Nat)(pp:List Nat)(whole:Nat)(m:List Bool)(E:AJ)(M f k:Nat):Prop:=
 ∀(w:World) (s:Aj) (v:FV) (r:RV) (ty:Bo) (tv:Value) (ps:List Nat) (vps:Value) (B2 Bt:Nat),vE w0 w->MK w w0.heap.size M T V pp.length s->RB 0 0 s->0<=s.left->s.left<f->s.path≠[]->DL 1 s->AX w0 (fun g=>g<w0.heap.size) k v r->VS k r->Fi E r ty->Bu w0 Bt tv ty->(∀q∈ps,Db E.c E.parts whole q (BI ty))->JG E.parts m ps->ps.length<=10000000->w.ownsRow B2 89 1 vps ps.length (Bw pp ps)->
  Calls prog 189 #[.pointer (some ⟨M,0,none⟩),Ck v,tv,vps] w (AQ w w0.heap.size M T V pp.length (.int .i64 (Bj E (AR E f) r ty ps s).1) (Bj E (AR E f) r ty ps s).2)
theorem fY(t:Nat):AH (t:Int)≠[]:=by
 intro e;have h1:AH (t:Int)=Lib.decDigits t:=by unfold AH Lib.itoa;rw[uB (by omega)];simp
 have h2:=Lib.decDigits_length t;have h3:=Lib.nDigits_pos t;rw[<-h1,e]at h2;simp at h2;omega
theorem QV{p:Prop}[Decidable p]{h:Nat}(hh:h<=2):(if p then h else 2)<=2:=by split<;>omega
theorem Sr(E:AJ)(f:Nat):∀(c:RV) (ty:Bo) (ps:List Nat) (s:Aj),(Bj E (AR E f) c ty ps s).1<=2:=by
 have hL:∀(obj:BW) (r:MR) (l:List QF) (i how:Nat) (s:Aj),how<=2->(BX E obj r l i how s).1<=2:=by
  intro obj r l
  induction l with
  |nil=>intro i how s h;rw[BX];exact h
  |cons x l ih=>
   intro i how s h;rw[BX];split
   ·exact tL _
   ·exact ih _ _ _ (QV h)
 have hI:∀(l:List RV) (i:Nat) (ty:Bo) (ps:List Nat) (how:Nat) (s:Aj),how<=2->(BO E (AR E f) l i ty ps how s).1<=2:=by
  intro l
  induction l with
  |nil=>intro i ty ps how s h;rw[BO];exact h
  |cons x l ih=>
   intro i ty ps how s h;rw[BO];split
   ·exact tL _
   ·exact ih _ _ _ _ _ (QV h)
 intro c ty ps s;obtain⟨k,n,t,l⟩:=c;rw[Bj];split
 ·simp
 split
 ·exact tL _
 split
 ·unfold Fb
  cases E.row t with
  |none=>exact tL _
  |some r=>
   show(AR E f r ps s).1<=2;cases f with
   |zero=>exact tL _
   |succ f=>rw[AR];exact hL _ _ _ _ _ _ (by omega)
 split
 ·exact hI _ _ _ _ _ _ (by omega)
 ·simp
theorem fU{s s1 sv:Aj}{t:List UInt8}{how1 N:Nat}{st:Bool}(hp:PB s)(e:¬s.step.left<0)(e1:s1.left=s.step.left)(e2:s1.path=s.path)(e3:s1.errs=s.errs)(e4:s1.data.length<=s.data.length+1)(ht:t.length<=4900)(g:Gr (s1.enter t) sv 10000 25010050)(p:PL (s1.enter t) sv)(lb:LB N (s1.enter t) sv):Gr s ((BE (s1.enter t).data.length how1 st sv).2.leave s1.path.length) 0 0/\PL s ((BE (s1.enter t).data.length how1 st sv).2.leave s1.path.length)/\ -(N:Int)<=(BE (s1.enter t).data.length how1 st sv).2.left:=by
 have hp2:PB (s1.enter t):=hp.step e e1 e2 ht;have g2:=Gr.settle (s1.enter t).data.length how1 st sv (hp2.pl p);have p2:=PL.settle (s1.enter t).data.length how1 st sv;have l2:=LB.settle (s1.enter t).data.length how1 st sv;have hs:s.step.left=s.left-1:=rfl;have g3:=(((Gr.enter s1 t).trans g).trans g2).trans (Gr.left (BE (s1.enter t).data.length how1 st sv).2 s1.path.length);have p3:PL s1 ((BE (s1.enter t).data.length how1 st sv).2.leave s1.path.length):=PL.around (p.trans p2);refine⟨g3.paid e e1 e4 e3 (by omega) (by omega),⟨p3.1.trans e2,by have:=p3.2;omega⟩,?_⟩;unfold LB at lb;have a1:(s1.enter t).left=s1.left:=rfl;rw[a1]at lb;omega
section
variable {w0:World} {S:Nat} {vR vO vI vU vN:Value} {LR:List (At×Value)} {LO:List AV} {LI:List (As×Value)} {LU:List (Au×Value)} {names:List vD} {T Mm gO Bs V:Nat} {vL:Value} {qs:List AE} {rows:List (vD×MR)} {vid:vD} {roles:List vD} {Bq:Nat} {pp:List Nat} {whole:Nat} {m:List Bool} {E:AJ} {M f k:Nat}
theorem VD(hX:MX w0 S vR vO vI vU vN LR LO LI LU names T Mm gO Bs V vL qs rows vid roles Bq pp whole m E)(hf5:f<=5001)(hk3:k<=1603){l:List RV}(hV:l=[]\/SQ w0 T V pp whole m E M f k)
 {w:World} {s:Aj} {la:Option Addr} {lc:Nat} {fs:List FV} {ty:Bo} {tv:Value} {ps:List Nat} {vps:Value} {B2 Bt:Nat} (hb:vE w0 w) (hM:MK w w0.heap.size M T V pp.length s) (hR:RB 0 0 s) (hf:s.left<f)
 (hfl:fs.length=l.length) (hg:l=[]\/∃g,g<w0.heap.size/\la=some ⟨g,0,none⟩/\∀j c,fs[j]?=some c->w0.cell? ⟨g,j*4,none⟩=some (.int .i64 c.sh)/\w0.cell? ⟨g,j*4+1,none⟩=some (.int .i64 c.n)/\w0.cell? ⟨g,j*4+2,none⟩=some (.string c.s)/\w0.cell? ⟨g,j*4+3,none⟩=some (.slice c.la c.ln c.lc)) (hva:∀(i:Nat) (f:FV) (r:RV),fs[i]?=some f->l[i]?=some r->AX w0 (fun g=>g<w0.heap.size) k f r) (hvs:∀c∈l,VS k c) (hll:l.length<=1000) (hfit:∀c∈l,Fi E c ty)
 (hty:Bu w0 Bt tv ty) (hps:∀q∈ps,Db E.c E.parts whole q (BI ty)) (hmet:JG E.parts m ps) (hpl:ps.length<=10000000) (hv:w.ownsRow B2 89 1 vps ps.length (Bw pp ps)):
 Calls prog 218 #[.pointer (some ⟨M,0,none⟩),.slice la l.length lc,tv,vps] w (AQ w w0.heap.size M T V pp.length (.int .i64 (BO E (AR E f) l 0 ty ps 0 (s.write [91])).1) (BO E (AR E f) l 0 ty ps 0 (s.write [91])).2):=by
 have HTY:=Aa hty;obtain⟨kt,rfl,lkt,ct⟩:=hty.st;have HV:=Aa (fun(X:World) (t:Aj) (v:FV) (r:RV) (hX:FT w0.heap.size kM w X) (h1:MK X w0.heap.size M T V pp.length t) (h2:RB 0 0 t) (h3:0<=t.left) (h4:t.left<f) (h5:t.path≠[]) (h6:DL 1 t) (h7:AX w0 (fun g=>g<w0.heap.size) k v r) (h8:r∈l)=>(hV.resolve_left (fun e=>by rw[e]at h8;cases h8)) X t v r ty (.pointer (some ⟨kt,0,none⟩)) ps vps B2 Bt (hb.trans hX.below) h1 h2 h3 h4 h5 h6 h7 (hvs r h8) (hfit r h8) HTY.o hps hmet hpl (hX.own hv (by decide)));unfold Ck at HV;have HGR:=Aa (fun(r:RV) (h8:r∈l) (t:Aj) (hp:PB t)=>Pv hX.sz (GK E f) (Jz hX.sz f) k r ty ps t (hvs r h8) hp);have HPL:=Aa (fun(r:RV) (t:Aj)=>Mj E (GK E f) r ty ps t);have HDL:=Aa (fun(r:RV) (t:Aj) (n:Nat) (h:DL n t)=>Pu E (Nn E f) r ty ps t n h);have HLE:=Aa (fun(r:RV) (t:Aj)=>Sr E f r ty ps t);have HIT:=Aa (fun(X:World) (hX':vE w0 X) (i:Nat) (hi:i<=100000)=>hX.it X hX' (i:Int) (by omega) (by omega));have HIM:=Aa (fun(c:RV) (l':List RV) (i how:Nat) (t:Aj)=>(show BO E (AR E f) (c::l') i ty ps how t=_ from BO.eq_2 E (AR E f) i ty ps how t c l'));have HIN:=Aa (fun(i how:Nat) (t:Aj)=>(show BO E (AR E f) [] i ty ps how t=(how,t.write [93])from BO.eq_1 E (AR E f) i ty ps how t));generalize Bj E (AR E f)=VM at*;generalize BO E (AR E f)=IM at*;obtain⟨RES,vH⟩:∃RES,Hi (RES=IM l 0 ty ps 0 (s.write [91])):=⟨_,Aa rfl⟩;rw[<-vH.o];have hwz:=hb.size;have HB:=Aa hb;have HW:=Aa (IP ⟨#[91]⟩ (by decide) hM (hR.room (by omega) (by omega)) hwz);have HR1:=Aa (show RB 1 0 (s.write [91])from hR.write [91]);have HD1:=Aa (show DL 1 (s.write [91])from by show 1<=(s.data++[91]).length;simp);have HGC:=Aa hg;have HVA:=Aa hva;have HFL:=Aa hfl;clear hb hM hR hV hX hva hvs hfit hty hps hmet hv hg hfl;unfold AQ at HW HV⊢;have hsw:(s.write [91]).path=s.path/\(s.write [91]).left=s.left:=⟨rfl,rfl⟩;have HSW:=Aa hsw;generalize s.write [91]=s1 at*;clear hsw;go_enter func218,ntmps218;go_wp2_with fail;refine HW.o.mono ?_;rintro _ w1 ⟨rfl,h1,f1⟩;have H1:=Aa h1;have F1:=Aa f1;clear h1 f1 HW;go_wp2_with fail;go_loopg [8,9,10,11,12,13,18] l.length (fun mm v8 v9 v10 v11 v12 v13 v18 wr=>∃(t how:Nat) (s':Aj),v18=.int .i64 t/\v9=.int .i64 how/\t<=l.length/\l.length-t<=mm/\MK wr w0.heap.size M T V pp.length s'/\FT w0.heap.size kM w wr/\RB 1 0 s'/\s'.path=s1.path/\DL 1 s'/\s'.left<=s1.left/\RES=IM (l.drop t) t ty ps how s')
 case atStart=>exact⟨0,0,s1,rfl,rfl,tU _,tL _,H1.o,F1.o,HR1.o,rfl,HD1.o,Int.le_refl _,vH.o⟩
 case round=>
  obtain⟨t,how,s',rfl,rfl,htl,htm,hM',hF',hR',hp',hd',hl',hrel⟩:=hrel;have HM':=Aa hM';have HF':=Aa hF';have HR':=Aa hR';have HP':=Aa hp';have HD':=Aa hd';have xQ:=Aa hrel;have hbz:=hF'.size;have hbw:vE w0 wr:=HB.o.trans hF'.below;have HBW:=Aa hbw;have hwr:=hbw.size;clear hM' hF' hR' hp' hd' hrel H1 F1;by_cases hlt:t<l.length
  ·have hx:=tN hlt
   have hdr:l.drop t=l[t]::l.drop (t+1):=uT hlt;have hmem:l[t]∈l:=List.getElem_mem hlt;generalize l[t]=r at hx hdr hmem;obtain⟨c,hc⟩:∃c,fs[t]?=some c:=⟨_,tN (by have:=HFL.o;omega)⟩;obtain⟨g,lg0,ela,hcell⟩:=HGC.o.resolve_left (fun e=>by rw[e]at hlt;simp at hlt);subst ela;obtain⟨y0,y1,y2,y3⟩:=hcell t c hc;have x0:=(hbw.cell (p:=⟨g,t*4,none⟩) lg0).trans y0;have x1:=(hbw.cell (p:=⟨g,t*4+1,none⟩) lg0).trans y1;have x2:=(hbw.cell (p:=⟨g,t*4+2,none⟩) lg0).trans y2;have x3:=(hbw.cell (p:=⟨g,t*4+3,none⟩) lg0).trans y3;have lg:=tR wr _ x0;have HVAT:=Aa (HVA.o t c r hc hx);have HMEM:=Aa hmem;have htI:(t:Int)<l.length:=by omega
   have HE0:=Aa (show RES=_ from by rw[xQ.o,hdr,HIM.o]);have hbA:=bA (tM wr.heap.size wr) (.cells #[.int .i64 c.sh,.int .i64 c.n,.string c.s,.slice c.la c.ln c.lc] 238);have wI:=Aa (tS wr (.cells #[.int .i64 c.sh,.int .i64 c.n,.string c.s,.slice c.la c.ln c.lc] 238));have HST:=Aa (VJ (HM'.o.below hbA) (HR'.o.room (by omega) (by omega)));have HFA:=Aa (HF'.o.bt hbA hwz);unfold AQ at HST;clear hcell hc hx hdr hmem y0 y1 y2 y3 hbw hbA HM' HF' xQ;have hsl:s'.step.left=s'.left-1:=rfl;have HSL:=Aa hsl;clear hsl;by_cases hneg:s'.left-1<0
   ·have xD:decide ((0:Int)<=s'.left-1)=false:=by simp;omega
    have HE1:=Aa (show RES=(2,s'.step)from by rw[HE0.o,uC (by rw[HSL.o];exact hneg)]);rw[xD]at HST;clear xD hneg HE0;generalize s'.step=s2 at*;go_wp2_with fail;refine HST.o.mono ?_;rintro _ w2 ⟨rfl,h2,f2⟩;have H2:=Aa h2;have F2:=Aa (HFA.o.trans f2);clear h2 f2;go_wp2_with fail;go_ret;rw[HE1.o];exact⟨rfl,H2.o,F2.o⟩
   ·have xD:decide ((0:Int)<=s'.left-1)=true:=by simp;omega
    rw[xD]at HST;have hstep:¬s'.step.left<0:=by rw[HSL.o];exact hneg
    have hcs:=Qo t s';have HE1:=Aa (show RES=IM (l.drop (t+1)) (t+1) ty ps (if (BE ((if 0<t then s'.step.write [44]else s'.step).enter (AH t)).data.length (VM r ty ps ((if 0<t then s'.step.write [44]else s'.step).enter (AH t))).1 (CA ty) (VM r ty ps ((if 0<t then s'.step.write [44]else s'.step).enter (AH t))).2).1=true then how else 2) ((BE ((if 0<t then s'.step.write [44]else s'.step).enter (AH t)).data.length (VM r ty ps ((if 0<t then s'.step.write [44]else s'.step).enter (AH t))).1 (CA ty) (VM r ty ps ((if 0<t then s'.step.write [44]else s'.step).enter (AH t))).2).2.leave (if 0<t then s'.step.write [44]else s'.step).path.length)from by rw[HE0.o,uB hstep]);have HRS:=Aa (show Ej s'.step from by
     have q:=HR'.o.room (by omega) (by omega);exact⟨q.d,q.e,q.p,by rw[HSL.o];omega,by rw[HSL.o];have:=q.h;omega⟩)
    have HWC:=Aa (fun(X:World) (hX:MK X w0.heap.size M T V pp.length s'.step) (hz:w0.heap.size<=X.heap.size)=>IP ⟨#[44]⟩ (by decide) hX HRS.o hz);unfold AQ at HWC;obtain⟨s2,hs2⟩:∃s2,s2=(if 0<t then s'.step.write [44]else s'.step):=⟨_,rfl⟩;have HS2:=Aa hs2;rw[<-hs2]at HE1 hcs;obtain⟨e1,e2,e3,e4⟩:=hcs;have HCS:=Aa (uV hstep (uV e1 (uV e2 (uV e3 e4))));have hl2:s2.left=s'.left-1:=e1;clear xD HE0 hs2 e1 e2 e3 e4 hstep;go_wp2_with fail;refine HST.o.mono ?_;rintro _ w2 ⟨rfl,h2,f2⟩;have H2:=Aa h2;have F2:=Aa (HFA.o.trans f2);have HBK2:=Aa (f2.at wI.o (by decide));have hz2:w0.heap.size<=w2.heap.size:=tQ hwz (HFA.o.trans f2).size;clear h2 f2 HST HFA wI x0 x1 x2 x3
    go_upto_if 27 with fail
    go_cut [] (fun wc=>MK wc w0.heap.size M T V pp.length s2/\FT w0.heap.size kM w wc/\wc.heap[wr.heap.size]?=some (.cells #[.int .i64 c.sh,.int .i64 c.n,.string c.s,.slice c.la c.ln c.lc] 238 (0,0)))
    case first=>
     rcases Nat.eq_zero_or_pos t with e0|e0
     ·have HS3:=Aa (show s2=s'.step from by rw[HS2.o,uB (by omega)])
      have hd0:decide ((0:Int)<(t:Int))=false:=by simp;omega
      go_wp2_with fail;go_meet;rw[HS3.o];exact⟨H2.o,F2.o,HBK2.o⟩
     ·have HS3:=Aa (show s2=s'.step.write [44]from by rw[HS2.o,uC e0])
      have hd0:decide ((0:Int)<(t:Int))=true:=by simp;omega
      have HWX:=Aa (HWC.o w2 H2.o hz2);clear HWC;go_wp2_with fail;refine HWX.o.mono ?_;rintro _ w3 ⟨rfl,h3,f3⟩;go_wp2_with fail;go_meet;rw[HS3.o];exact⟨h3,F2.o.trans f3,f3.at HBK2.o (by decide)⟩
    case rest=>
     obtain⟨h3,f3,hk3⟩:=hcut;have H3:=Aa h3;have F3:=Aa f3;have HK3:=Aa hk3;have hbc:vE w0 wc:=HB.o.trans f3.below;have hz3:=hbc.size;have HIX:=Aa (HIT.o wc hbc t (by omega));have hr2:Ej s2:=by
      obtain⟨q1,q2,q3,q4,q5⟩:=HCS.o;have q:=HRS.o;have qq:=HR'.o.d;exact⟨by omega,by rw[q4];exact q.e,by rw[q3];exact q.p,by rw[q2];exact q.l,by rw[q2];exact q.h⟩
     have HEN:=Aa (fun(X:World) (hX:vE wc X)=>Vz ⟨(AH t).toArray⟩ (by show(AH t).toArray.size<=_;have:=QX (i:=t) (by omega);simp;omega) (H3.o.below hX) hr2 (tQ hz3 hX.size));rw[show(⟨(AH t).toArray⟩:vD).data.toList=AH t from by simp]at HEN;unfold AQ at HEN;have hilen:=QX (i:=t) (by omega);have hine:AH (t:Int)≠[]:=fY t;have yF:=Aa (show RB 0 0 (s2.enter (AH t))from HR'.o.paid (by omega) (by omega) (by have:=HCS.o.1;omega) HCS.o.2.1 HCS.o.2.2.1 HCS.o.2.2.2.1 HCS.o.2.2.2.2 (AH t) [] (by omega) (by simp) (by unfold Aj.write;simp));have HP3:=Aa (show(s2.enter (AH t)).path≠[]from TR s2 _ hine);have HD3:=Aa (show DL 1 (s2.enter (AH t))from by
      show 1<=s2.data.length;rw[HS2.o];have h1:=HD'.o;unfold DL at h1;split
      ·exact DL.write (s:=s'.step) h1 [44]
      ·exact h1)
     have hl3:(s2.enter (AH t)).left=s2.left:=rfl;have HPE:=Aa (show s2.path.length<=(s2.enter (AH t)).path.length from by
      show _<=(Cj s2.path++AH t).length;have h1:=Qr s2.path (AH t);have h2:=congrArg List.length h1;rw[List.length_take]at h2;omega)
     have HRO:=Aa (fun(g:Gr (s2.enter (AH t)) (VM r ty ps (s2.enter (AH t))).2 10000 25010050) (p:PL (s2.enter (AH t)) (VM r ty ps (s2.enter (AH t))).2) (lb:LB (1604*f+k) (s2.enter (AH t)) (VM r ty ps (s2.enter (AH t))).2)=>fU (how1:=(VM r ty ps (s2.enter (AH t))).1) (st:=CA ty) HR'.o.p (by have:=HCS.o.1;omega) HCS.o.2.1 HCS.o.2.2.1 HCS.o.2.2.2.1 HCS.o.2.2.2.2 (by omega) g p lb);generalize s2.enter (AH t)=s3 at*;have HG3:=Aa (HGR.o r HMEM.o s3 yF.o.p);have HL3:=Aa (HPL.o r s3);have HDV:=Aa (HDL.o r s3 s3.data.length (tL _));have HLV:=Aa (HLE.o r s3);have yE:=Aa (HRO.o HG3.o.1 HL3.o HG3.o.2);have HVX:=Aa (fun(X:World) (hX:FT w0.heap.size kM w X) (hm:MK X w0.heap.size M T V pp.length s3)=>HV.o X s3 c r hX hm yF.o (by rw[hl3,hl2];omega) (by rw[hl3,hl2];have:=HSW.o.2;omega) HP3.o HD3.o HVAT.o HMEM.o);have HRV:=Aa (show RB 10000 25010050 (VM r ty ps s3).2 from by
      have q:=yF.o.gr HG3.o.1 HL3.o (by have:=HG3.o.2;unfold LB at this;omega);simpa using q)
     generalize VM r ty ps s3=va at*;obtain⟨how1,sv⟩:=va;simp only[]at HE1 HG3 HL3 HDV HLV yE HVX HRV;have HSE:=Aa (fun(X:World) (hX:MK X w0.heap.size M T V pp.length sv) (hz:w0.heap.size<=X.heap.size)=>Rq s3.data.length how1 (CA ty) hX (HRV.o.room (by omega) (by omega)) HDV.o (Qp HDV.o HD3.o) (.inl (by rw[HL3.o.1];exact HP3.o)) HLV.o hz);have HDZ:=Aa (show DL 1 (BE s3.data.length how1 (CA ty) sv).2 from DL.settle (show 1<=sv.data.length from tQ HD3.o HDV.o) HD3.o);have HPZ:=Aa (show(BE s3.data.length how1 (CA ty) sv).2.path=s3.path from(PL.settle s3.data.length how1 (CA ty) sv).1.trans HL3.o.1);have HRZ:=Aa (show RB 10004 50020100 (BE s3.data.length how1 (CA ty) sv).2 from by
      have q:=HRV.o.gr (Gr.settle s3.data.length how1 (CA ty) sv HRV.o.p) (PL.settle _ _ _ _) (by rw[LB.settle];exact HRV.o.l);simpa using q)
     unfold AQ at HSE;generalize BE s3.data.length how1 (CA ty) sv=z at*;obtain⟨zb,sz⟩:=z;simp only[]at HE1 yE HSE HDZ HPZ HRZ;have HLV5:=Aa (fun(X:World) (hX:MK X w0.heap.size M T V pp.length sz)=>VC s2.path.length hX (HRZ.o.room (by omega) (by omega)) (by rw[HPZ.o];exact HPE.o));unfold AQ at HLV5;have HRN:=Aa (show RB 1 0 (sz.leave s2.path.length)from by
      have q:=HR'.o.gr yE.o.1 yE.o.2.1 (by show _<=sz.left;have:=yE.o.2.2;omega);simpa using q)
     have HPN:=Aa (show(sz.leave s2.path.length).path=s1.path from yE.o.2.1.1.trans HP'.o);have HDN:=Aa (show DL 1 (sz.leave s2.path.length)from HDZ.o);have HLN:=Aa (show(sz.leave s2.path.length).left<=s1.left from Int.le_trans yE.o.2.1.2 hl');generalize sz.leave s2.path.length=s5 at*;have hcM:=HK3;clear h3 f3 hk3 HG3 HRO yE HV HGR HPL HDL HLE HIT HWC H2 F2 HBK2 hr2 hl3 HRS HCS;go_wp2_with fail;refine HIX.o.mono ?_;rintro _ w4 ⟨rfl,b4⟩;have HE4:=Aa (HEN.o w4 b4);have F4:=Aa (F3.o.bt b4 hwz);have HK4:=Aa ((b4.block _ (Ab HK3.o)).trans HK3.o);clear b4 HIX HEN H3 F3 HK3;go_wp2_with fail;refine HE4.o.mono ?_;rintro _ w5 ⟨rfl,h5,f5⟩;have F5:=Aa (F4.o.trans f5);have HK5:=Aa (f5.at HK4.o (by decide));have H5:=Aa h5;obtain⟨vd,ve,vp,hx5⟩:=h5;obtain⟨ad,cd,ae,ce,ap,cp,rfl,rfl,rfl⟩:=hx5.slices;have c5:=Ac hx5.b;have l5:=Ab hx5.b;have hz5:w0.heap.size<=w5.heap.size:=tQ hwz F5.o.size;have HVX2:=Aa (HVX.o w5.drew F5.o.dr (H5.o.below (tM _ _).drew));have lkt5:kt<w5.heap.size:=by omega
     have HSS:=Aa (fun V' (hV:FT w0.heap.size kM w5 V')=>uV hV (uV (Ac (hV.at HK5.o (by decide))) (uV ((hV.below.cell (p:=⟨kt,3,none⟩) lkt).trans (((HB.o.trans F5.o.below).cell (p:=⟨kt,3,none⟩) lkt).trans ct)) (uV (tV (Ab HK5.o) hV.size) (tV lkt5 hV.size)))));clear f5 hx5 HE4 F4 HK4 HVX;generalize CA ty=st at*;go_wp2_with fail;go_region_held3 (fun V'=>FT w0.heap.size kM w5 V'/\(∀j,V'.cell? ⟨wr.heap.size,j,none⟩=(#[.int .i64 c.sh,.int .i64 c.n,.string c.s,.slice c.la c.ln c.lc]:Array Value)[j]?)/\V'.cell? ⟨kt,3,none⟩=some (.bool st)/\wr.heap.size<V'.heap.size/\kt<V'.heap.size)
      (first|exact HSS.o _ (FT.refl _ _ _).dr|exact HSS.o _ ((FT.refl _ _ _).dr.trans f6)|exact HSS.o _ (((FT.refl _ _ _).dr.trans f6).trans f7))
      (first|(go_at_call 189;refine HVX2.o.mono ?_;rintro _ w6 ⟨rfl,h6,f6⟩)|(go_at_call 50;refine(HSE.o _ h6 (tQ hz5 ((FT.refl _ _ w5).dr.trans f6).size)).mono ?_;rintro _ w7 ⟨rfl,h7,f7⟩))
     all_goals(
      have HL7:=Aa (HLV5.o w7 h7);have F7:=Aa (F5.o.trans (((FT.refl _ _ _).dr.trans f6).trans f7));clear h6 f6 h7 f7 HSS HVX2 HSE;cases zb;all_goals(
       go_wp2_with fail;refine HL7.o.mono ?_;rintro _ w8 ⟨rfl,h8,f8⟩;have H8:=Aa h8;have F8:=Aa (F7.o.trans f8);clear h8 f8;go_wp2_with fail;go_roundg (l.length-(t+1))
       case measure=>omega
       case rel=>exact⟨t+1,_,s5,by go_num,rfl,by omega,tL _,H8.o,F8.o,HRN.o,HPN.o,HDN.o,HLN.o,HE1.o⟩))
  ·have ht:t=l.length:=by omega
   subst ht;have HE:=Aa (show RES=(how,s'.write [93])from by rw[xQ.o,List.drop_length,HIN.o]);have HWE:=Aa (IP ⟨#[93]⟩ (by decide) HM'.o (HR'.o.room (by omega) (by omega)) hwr);unfold AQ at HWE;clear xQ;go_wp2_with fail;refine HWE.o.mono ?_;rintro _ w2 ⟨rfl,h2,f2⟩;have H2:=Aa h2;have F2:=Aa (HF'.o.trans f2);clear h2 f2;go_wp2_with fail;go_ret;rw[HE.o];exact⟨rfl,H2.o,F2.o⟩
end
theorem MK.c01{X:World}{B0 M T V n:Nat}(h:∃s,MK X B0 M T V n s):X.cell? ⟨M,0,none⟩=some (.pointer (some ⟨T,0,none⟩))/\X.cell? ⟨M,1,none⟩=some (.pointer (some ⟨V,0,none⟩))/\M<X.heap.size:=by
 obtain⟨s,vd,ve,vp,hx⟩:=h;exact⟨Ac hx.b 0,Ac hx.b 1,Ab hx.b⟩
section
variable {w0:World} {S:Nat} {vR vO vI vU vN:Value} {LR:List (At×Value)} {LO:List AV} {LI:List (As×Value)} {LU:List (Au×Value)} {names:List vD} {T Mm gO Bs V:Nat} {vL:Value} {qs:List AE} {rows:List (vD×MR)} {vid:vD} {roles:List vD} {Bq:Nat} {pp:List Nat} {whole:Nat} {m:List Bool} {E:AJ} {M f k:Nat}
theorem VL(hX:MX w0 S vR vO vI vU vN LR LO LI LU names T Mm gO Bs V vL qs rows vid roles Bq pp whole m E)(hO:JI w0 gO LO T V pp whole m E M f)
 {w:World} {s:Aj} {sh:Nat} {n:Int} {t:vD} {l:List RV} {la:Option Addr} {ln lc:Nat} {ty:Bo} {tv:Value} {ps:List Nat} {vps:Value} {B2 Bt:Nat} (hb:vE w0 w) (hM:MK w w0.heap.size M T V pp.length s) (hR:RB 0 0 s) (h0:0<=s.left) (hf:s.left<f) (hp0:s.path≠[]) (hts:t.size<=4000) (hn:Bx n) (hfit:Fi E (.mk sh n t l) ty)
 (hty:Bu w0 Bt tv ty) (hps:∀q∈ps,Db E.c E.parts whole q (BI ty)) (hmet:JG E.parts m ps) (hpl:ps.length<=10000000) (hv:w.ownsRow B2 89 1 vps ps.length (Bw pp ps))
 (hL:sh=7->∀X,FT w0.heap.size kM w X->MK X w0.heap.size M T V pp.length s->∀u ty' st,ty=.list ty' st->Bu w0 Bt u ty'->Calls prog 218 #[.pointer (some ⟨M,0,none⟩),.slice la ln lc,u,vps] X (AQ X w0.heap.size M T V pp.length (.int .i64 (BO E (AR E f) l 0 ty' ps 0 (s.write [91])).1) (BO E (AR E f) l 0 ty' ps 0 (s.write [91])).2)):
 Calls prog 189 #[.pointer (some ⟨M,0,none⟩),.agg #[.int .i64 sh,.int .i64 n,.string t,.slice la ln lc],tv,vps] w (AQ w w0.heap.size M T V pp.length (.int .i64 (Bj E (AR E f) (.mk sh n t l) ty ps s).1) (Bj E (AR E f) (.mk sh n t l) ty ps s).2):=by
 have hwz:=hb.size;have hrm:=hR.room (by omega) (by omega);have hbA:=bA (tM w.heap.size w) (.cells #[.int .i64 sh,.int .i64 n,.string t,.slice la ln lc] 238);have wI:=Aa (tS w (.cells #[.int .i64 sh,.int .i64 n,.string t,.slice la ln lc] 238));have HFA:=Aa (show FT w0.heap.size kM w _ from FT.of_below hbA hwz);have HMA:=Aa (hM.below hbA);have hzA:w0.heap.size<=(w.alloc (.cells #[.int .i64 sh,.int .i64 n,.string t,.slice la ln lc] 238)).heap.size:=tQ hwz hbA.size;obtain⟨RES,vH⟩:∃RES,Hi (RES=Bj E (AR E f) (.mk sh n t l) ty ps s):=⟨_,Aa rfl⟩;rw[<-vH.o];rw[Bj]at vH;by_cases k0:sh=0
 ·subst k0
  rw[uC rfl]at vH;unfold AQ;clear hX hO hfit hty hps hmet hv hL;go_enter func189,ntmps189;go_wp2_with fail;go_ret;rw[vH.o];exact⟨rfl,HMA.o,HFA.o⟩
 rw[uB k0]at vH;have K0:((sh:Int)==0)=false:=by simp;omega
 by_cases k8:sh=8
 ·subst k8
  rw[uC rfl]at vH;have HFL:=Aa (OI HMA.o hrm.e hrm.p hp0 hzA);unfold AQ at HFL⊢;clear hX hO hfit hty hps hmet hv hL;go_enter func189,ntmps189;go_wp2_with fail;refine HFL.o.mono ?_;rintro _ w2 ⟨rfl,h2,f2⟩;have H2:=Aa h2;have F2:=Aa (HFA.o.trans f2);clear h2 f2;go_wp2_with fail;go_ret;rw[vH.o];exact⟨rfl,H2.o,F2.o⟩
 rw[uB k8]at vH;have K8:((sh:Int)==8)=false:=by simp;omega
 by_cases k6:sh=6
 ·subst k6
  rw[uC rfl]at vH;obtain⟨c,st,rfl,hrow⟩:∃c st,ty=.one c st/\∀r,E.row t=some r->AU (E.obj r.1) E.uns c=true:=by
   cases hfit with
   |lit a b=>exact absurd rfl a
   |ref h=>exact⟨_,_,rfl,h⟩
  have HVR:=Aa (fun X (hX':vE w0 X)=>Yn hX' hX.s hX.g hX.v hX.t t (by unfold maxLen;omega));have HRW:=Aa (fun(X:World) (q:Option Addr) (hX':FT w0.heap.size kM w X) (hm:MK X w0.heap.size M T V pp.length s) (hq:Ks w0 gO LO q (Eg (LO.map Prod.fst) roles vid rows t))=>(show Calls prog 185 #[.pointer (some ⟨M,0,none⟩),.pointer q,vps] X (AQ X w0.heap.size M T V pp.length (.int .i64 RES.1) RES.2)from by
   rw[vH.o];refine VI hO (hb.trans hX'.below) hm hR h0 hf hp0 (by rw[hX.ew];exact hq) (fun r hr=>?_) hpl (hX'.own hv (by decide));exact⟨hX.ok.row _ _ hr,hX.sz.row _ _ hr,⟨fun p hp=>⟨c,hps p hp,hrow r hr⟩,hmet⟩⟩))
  have HBB:=Aa hb;unfold AQ at HRW⊢;clear hX hO hfit hty hps hmet hv hL hrow vH;generalize Eg (LO.map Prod.fst) roles vid rows t=vr at*;go_enter func189,ntmps189;go_wp2_with fail;generalize w.alloc (.cells #[.int .i64 ((6:Nat):Int),.int .i64 n,.string t,.slice la ln lc] 238)=W1 at*;have HSS:=Aa (fun V' (hV:FT w0.heap.size kM W1 V') (hm:∃s',MK V' w0.heap.size M T V pp.length s')=>uV hV (uV (MK.c01 hm).1 (uV (MK.c01 hm).2.1 (uV (Ac (hV.at wI.o (by decide))) (uV (MK.c01 hm).2.2 (tV (Ab wI.o) hV.size))))));have HVR2:=Aa (HVR.o W1.drew (HBB.o.trans HFA.o.dr.below));clear HVR;go_region_held3 (fun V'=>FT w0.heap.size kM W1 V'/\V'.cell? ⟨M,0,none⟩=some (.pointer (some ⟨T,0,none⟩))/\V'.cell? ⟨M,1,none⟩=some (.pointer (some ⟨V,0,none⟩))/\(∀j,V'.cell? ⟨w.heap.size,j,none⟩=(#[.int .i64 ((6:Nat):Int),.int .i64 n,.string t,.slice la ln lc]:Array Value)[j]?)/\M<V'.heap.size/\w.heap.size<V'.heap.size)
   (first|exact HSS.o _ (FT.refl _ _ _).dr ⟨_,HMA.o.below (tM _ _).drew⟩|exact HSS.o _ ((FT.refl _ _ _).dr.bt b6 hzA) ⟨_,(HMA.o.below (tM _ _).drew).below b6⟩|exact HSS.o _ (((FT.refl _ _ _).dr.bt b6 hzA).trans f7) ⟨_,h7⟩)
   (first|(go_at_call 217;refine HVR2.o.mono ?_;rintro _ w6 ⟨q,rfl,b6,hq⟩)|(go_at_call 185;refine(HRW.o w6 q ((HFA.o.dr).bt b6 hwz) ((HMA.o.below (tM _ _).drew).below b6) hq).mono ?_;rintro _ w7 ⟨rfl,h7,f7⟩))
  all_goals(
   have H7:=Aa h7;have F7:=Aa (((HFA.o.dr).bt b6 hwz).trans f7);clear h7 f7 b6 hq;go_wp2_with fail;go_ret;exact⟨rfl,H7.o,F7.o⟩)
 rw[uB k6]at vH;have K6:((sh:Int)==6)=false:=by simp;omega
 by_cases k7:sh=7
 ·subst k7
  rw[uC rfl]at vH;obtain⟨ty',st,rfl⟩:∃ty' st,ty=.list ty' st:=by
   cases hfit with
   |lit a b=>exact absurd rfl b
   |list h=>exact⟨_,_,rfl⟩
  obtain⟨kt,u,rfl,hkt,hbt,hu⟩:=hty;have HLC:=Aa (fun X (hX':FT w0.heap.size kM w X) (hm:MK X w0.heap.size M T V pp.length s)=>(show Calls prog 218 #[.pointer (some ⟨M,0,none⟩),.slice la ln lc,u,vps] X (AQ X w0.heap.size M T V pp.length (.int .i64 RES.1) RES.2)from by rw[vH.o];exact hL rfl X hX' hm u ty' st rfl hu));have ct:∀X,FT w0.heap.size kM w X->X.cell? ⟨kt,2,none⟩=some u:=fun X hX'=>((hb.trans hX'.below).cell (p:=⟨kt,2,none⟩) (Ab hbt)).trans (Ac hbt 2);have lkt:kt<w0.heap.size:=Ab hbt;have HCT:=Aa ct;obtain⟨uk,rfl⟩:=hu.ptr;unfold AQ at HLC⊢;clear hX hO hfit hps hmet hv hL vH hbt hu ct;go_enter func189,ntmps189;go_wp2_with fail;generalize w.alloc (.cells #[.int .i64 ((7:Nat):Int),.int .i64 n,.string t,.slice la ln lc] 238)=W1 at*;have HSS:=Aa (fun V' (hV:FT w0.heap.size kM W1 V')=>uV hV (uV (HCT.o V' (HFA.o.trans hV)) (uV (Ac (hV.at wI.o (by decide))) (uV (tV lkt (tQ hzA hV.size)) (tV (Ab wI.o) hV.size)))));have HLC2:=Aa (HLC.o W1.drew HFA.o.dr (HMA.o.below (tM _ _).drew));clear HLC HCT;go_region_held3 (fun V'=>FT w0.heap.size kM W1 V'/\V'.cell? ⟨kt,2,none⟩=some (.pointer (some ⟨uk,0,none⟩))/\(∀j,V'.cell? ⟨w.heap.size,j,none⟩=(#[.int .i64 ((7:Nat):Int),.int .i64 n,.string t,.slice la ln lc]:Array Value)[j]?)/\kt<V'.heap.size/\w.heap.size<V'.heap.size)
   (first|exact HSS.o _ (FT.refl _ _ _).dr|exact HSS.o _ ((FT.refl _ _ _).dr.trans f7))
   (first|(go_at_call 218;refine HLC2.o.mono ?_;rintro _ w7 ⟨rfl,h7,f7⟩))
  all_goals(
   have H7:=Aa h7;have F7:=Aa (HFA.o.dr.trans f7);clear h7 f7;go_wp2_with fail;go_ret;exact⟨rfl,H7.o,F7.o⟩)
 rw[uB k7]at vH;have K7:((sh:Int)==7)=false:=by simp;omega
 have HSC:=Aa (kT (hX.it.below (hb.trans HFA.o.below)) sh n t hn.1 hn.2 hn.len (by omega) HMA.o hrm hzA);unfold AQ at HSC⊢;clear hX hO hfit hty hps hmet hv hL;go_enter func189,ntmps189;go_wp2_with fail;refine HSC.o.mono ?_;rintro _ w2 ⟨rfl,h2,f2⟩;have H2:=Aa h2;have F2:=Aa (HFA.o.trans f2);clear h2 f2;go_wp2_with fail;go_ret;rw[vH.o];exact⟨rfl,H2.o,F2.o⟩
theorem VK(hX:MX w0 S vR vO vI vU vN LR LO LI LU names T Mm gO Bs V vL qs rows vid roles Bq pp whole m E)(hf5:f<=5001)(hO:JI w0 gO LO T V pp whole m E M f):∀k,k<=1603->SQ w0 T V pp whole m E M f k
 |0,hk,w,s,v,.mk sh n t l,ty,tv,ps,vps,B2,Bt,hb,hM,hR,h0,hf,hp0,_,hva,hvs,hfit,hty,hps,hmet,hpl,hv=>by
  obtain⟨vsh,vn,vs,la,ln,lc⟩:=v;obtain⟨e1,e2,e3,e4,e5⟩:=hva;simp only[]at e1 e2 e3 e5;subst e1 e2 e3 e4 e5;obtain⟨h1,h2, -⟩:=hvs;refine VL hX hO hb hM hR h0 hf hp0 h1 h2 hfit hty hps hmet hpl hv (fun e7 X hX' hm u ty' st ety hu=>?_);subst ety;exact VD (k:=0) (fs:=[]) hX hf5 (by omega) (.inl rfl) (hb.trans hX'.below) hm hR hf rfl (.inl rfl) (fun i f r h=>by simp at h) (fun c h=>by simp at h) (by simp) (fun c h=>by simp at h) hu hps hmet hpl (hX'.own hv (by decide))
 |k+1,hk,w,s,v,.mk sh n t l,ty,tv,ps,vps,B2,Bt,hb,hM,hR,h0,hf,hp0,_,hva,hvs,hfit,hty,hps,hmet,hpl,hv=>by
  obtain⟨vsh,vn,vs,la,ln,lc⟩:=v;obtain⟨e1,e2,e3,e4,fs,e5,e6,e7⟩:=hva;simp only[]at e1 e2 e3 e4 e6;subst e1 e2 e3 e4;obtain⟨h1,h2,h3,h4⟩:=hvs;refine VL hX hO hb hM hR h0 hf hp0 h1 h2 hfit hty hps hmet hpl hv (fun e8 X hX' hm u ty' st ety hu=>?_);subst ety e8;have hfi:∀c∈l,Fi E c ty':=by
   cases hfit with
   |lit a b=>exact absurd rfl b
   |list h=>exact h
  exact VD (k:=k) (fs:=fs) hX hf5 (by omega) (.inr (VK hX hf5 hO k (by omega))) (hb.trans hX'.below) hm hR hf e5 e6 e7 h4 h3 hfi hu hps hmet hpl (hX'.own hv (by decide))
end
def Js(k:Nat)(n:Int)(ln:Nat):Nat:=if k=0 then ln else min ln (max 0 n).toNat
theorem kL(w:World)(la:Option Addr)(ln lc k:Nat)(n:Int)(t:vD)(h:ln<=lc)(hl:ln<=1000000):Calls prog 188 #[.slice la ln lc,.agg #[.int .i64 k,.int .i64 n,.string t]] w fun e w'=>e=.returned (.slice la (Js k n ln) lc)/\vE w w':=by
 have hbA:=bA (tM w.heap.size w) (.cells #[.int .i64 k,.int .i64 n,.string t] 116);have HBA:=Aa hbA;clear hbA;by_cases k0:k=0
 ·subst k0
  have HE:=Aa (show Js 0 n ln=ln from rfl);go_enter func188,ntmps188;go_wp2_with fail;go_ret;rw[HE.o];exact⟨rfl,HBA.o⟩
 ·have K0:((k:Int)==0)=false:=by simp;omega
  have HE:=Aa (show Js k n ln=min ln (max 0 n).toNat from by unfold Js;rw[uB k0]);go_enter func188,ntmps188;go_wp2_with fail;go_ret;rw[HE.o];exact⟨by rw[show(min (ln:Int) (max 0 n)).toNat=min ln (max 0 n).toNat from by omega];rfl,HBA.o⟩
theorem AX.first{w:World}{B:Nat->Prop}{k:Nat}{v:FV}{r:RV}(pv0:PV)(h:AX w B k v r):AX w B k ⟨v.sh,v.n,v.s,v.la,Js pv0.1 pv0.2.1 v.ln,v.lc⟩ (KI pv0 r):=by
 obtain⟨sh,n,t,l⟩:=r;unfold KI Js;dsimp only;cases k with
 |zero=>
  obtain⟨h1,h2,h3,h4,h5⟩:=h;subst h4;exact⟨h1,h2,h3,by split<;>simp,by show(if _ then v.ln else min v.ln _)=0;rw[h5];split<;>simp⟩
 |succ k=>
  obtain⟨h1,h2,h3,h4,fs,h5,h6,h7⟩:=h;by_cases e:pv0.1=0
  ·rw[uC e,uC e]
   exact⟨h1,h2,h3,h4,fs,h5,h6,h7⟩
  ·rw[uB e,uB e]
   refine⟨h1,h2,h3,by show min v.ln _=_;rw[h4,List.length_take];omega,fs.take (max 0 pv0.2.1).toNat,by rw[List.length_take,List.length_take,h5],?_,fun i f r hf hr=>?_⟩
   ·rcases h6 with h6|⟨g,hg,ha,h6⟩
    ·exact .inl (by rw[h6];simp)
    ·refine .inr ⟨g,hg,ha,fun j c hj=>h6 j c ?_⟩
     rw[List.getElem?_take]at hj;split at hj
     ·exact hj
     ·cases hj
   ·rw[List.getElem?_take]at hf hr
    split at hf
    ·rename_i q
     rw[uC q]at hr;exact h7 i f r hf hr
    ·cases hf
theorem Fi.first{E:AJ}{r:RV}{ty:Bo}(v:PV)(h:Fi E r ty):Fi E (KI v r) ty:=by
 cases h with
 |lit a b=>exact .lit a b
 |ref h=>exact .ref h
 |list h=>
  refine .list (fun c hc=>h c ?_);split at hc
  ·exact hc
  ·exact List.mem_of_mem_take hc
theorem AX.ln{w:World}{B:Nat->Prop}{k:Nat}{v:FV}{r:RV}(h:AX w B k v r)(hs:VS k r):v.ln<=1000:=by
 obtain⟨sh,n,t,l⟩:=r;cases k with
 |zero=>have:=h.2.2.2.2;omega
 |succ k=>have h1:=h.2.2.2.1;have h2:=hs.2.2.1;omega
theorem MK.stN{X:World}{B0 M T V n N:Nat}{s:Aj}{cs:Array Value}{K:TypeId}{fr:Nat×Nat}(h:MK X B0 M T V n s)(hN:X.heap[N]?=some (.cells cs K fr))(h5:K≠5)(hm:K≠86)(i:Nat)(u:Value):MK (X.setCell ⟨N,i,none⟩ u) B0 M T V n s:=by
 obtain⟨vd,ve,vp,hx⟩:=h;exact⟨vd,ve,vp,⟨(tX _ _ _ _ (show M≠N from fun e=>by subst e;rw[hx.b]at hN;cases hN;exact hm rfl)).trans hx.b,Di hx.d (Bv hx.d hN h5) i u,Di hx.e (Bv hx.e hN h5) i u,Di hx.p (Bv hx.p hN h5) i u,hx.de,hx.dp,hx.ep,hx.lm⟩⟩
section
variable {w0:World} {S:Nat} {vR vO vI vU vN:Value} {LR:List (At×Value)} {LO:List AV} {LI:List (As×Value)} {LU:List (Au×Value)} {names:List vD} {T Mm gO Bs V:Nat} {vL:Value} {qs:List AE} {rows:List (vD×MR)} {vid:vD} {roles:List vD} {Bq:Nat} {pp:List Nat} {whole:Nat} {m:List Bool} {E:AJ} {M f k:Nat}
theorem kU(hX:MX w0 S vR vO vI vU vN LR LO LI LU names T Mm gO Bs V vL qs rows vid roles Bq pp whole m E)(hf5:f<=5001)(hO:JI w0 gO LO T V pp whole m E M f)
 {w:World} {s:Aj} {r:MR} {g o:Nat} {l:List BR} {d:Al} {gF oF:Nat} {u:Value} {x:Aq} {gs os:Nat} {fps:List Nat} {vfp:Value} {B2 Bt:Nat} (hb:vE w0 w) (hM:MK w w0.heap.size M T V pp.length s) (hR:RB 0 0 s) (h0:0<=s.left) (hf:s.left<f) (hp0:s.path≠[]) (hd1:DL 1 s) (hrow:Ha w0 w gO LO g o l r) (hrs:Ei r) (hFd:Ce w0 gF oF d u) (hTy:Bu w0 Bt u d.ty) (hfit:Fi E (Fm r d.name) d.ty) (hsel:ET w0 Bq pp gs os x) (hid:d.arg=CI->(∃a,x.args=[a])/\Ou d.ty=false) (hasz:∀a∈x.args,a.2.2.2.size<=4000)
 (hps:∀q∈fps,Db E.c E.parts whole q (BI d.ty)) (hmet:JG E.parts m fps) (hpl:fps.length<=10000000) (hv:w.ownsRow B2 89 1 vfp fps.length (Bw pp fps)):
 Calls prog 132 #[.pointer (some ⟨M,0,none⟩),.pointer (some ⟨g,o,none⟩),.pointer (some ⟨gF,oF,none⟩),.agg #[.pointer (some ⟨gs,os,none⟩),vfp]] w (AQ w w0.heap.size M T V pp.length (.int .i64 (Da E (AR E f) r d (x,fps) s).1) (Da E (AR E f) r d (x,fps) s).2):=by
 have hwz:=hb.size;have hrm:=hR.room (by omega) (by omega);obtain⟨aP,cP,rfl⟩:=An hv;have hbA:=bA (tM w.heap.size w) (.cells #[.pointer (some ⟨gs,os,none⟩),.slice aP fps.length cP] 209);have wI:=Aa (tS w (.cells #[.pointer (some ⟨gs,os,none⟩),.slice aP fps.length cP] 209));have HFA:=Aa (show FT w0.heap.size kM w _ from FT.of_below hbA hwz);have HMA:=Aa (hM.below hbA);have hzA:w0.heap.size<=(w.alloc (.cells #[.pointer (some ⟨gs,os,none⟩),.slice aP fps.length cP] 209)).heap.size:=tQ hwz hbA.size;have HBA:=Aa (show vE w0 (w.alloc (.cells #[.pointer (some ⟨gs,os,none⟩),.slice aP fps.length cP] 209))from hb.trans (hbA.mono hwz));obtain⟨RES,vH⟩:∃RES,Hi (RES=Da E (AR E f) r d (x,fps) s):=⟨_,Aa rfl⟩;rw[<-vH.o];unfold Da at vH;have HCL:=Aa (sX (hX.v.below HBA.o) (hFd.below HBA.o));have HTI:=Aa (Sk (hFd.below HBA.o));have hcM:=(MK.c01 ⟨s,HMA.o⟩);have cM1:=hcM.2.1;have lM:=hcM.2.2;have HER:=Aa hX.er;generalize hmy:Dy roles d.auth=my at*;have HMY:=Aa hmy;clear hmy hcM hbA;cases my
 ·rw[uC (by rw[HER.o];exact HMY.o)]at vH
  have HFL:=Aa (OI HMA.o hrm.e hrm.p hp0 hzA);unfold AQ at HFL⊢;clear hX hO hfit hTy hps hmet hv hrow hsel hFd HTI;go_enter func132,ntmps132;go_wp2_with fail;generalize w.alloc (.cells #[.pointer (some ⟨gs,os,none⟩),.slice aP fps.length cP] 209)=W1 at*;refine HCL.o.mono ?_;rintro _ w2 ⟨rfl,hw2⟩;have hw2:=hw2.symm;subst hw2;go_wp2_with fail;refine HFL.o.mono ?_;rintro _ w2 ⟨rfl,h2,f2⟩;have H2:=Aa h2;have F2:=Aa (HFA.o.trans f2);clear h2 f2;go_wp2_with fail;go_ret;rw[vH.o];exact⟨rfl,H2.o,F2.o⟩
 rw[uB (by rw[HER.o,HMY.o];simp)]at vH;obtain⟨aA,cA,aC,cC,hc,hok⟩:=hsel.ex;have x3:w0.cell? ⟨gs,os+3,none⟩=some (.slice aA x.args.length cA):=hc 3 _ rfl;have lgs:=tR w0 _ x3;have HXA:=Aa hok.a;have hal:=hok.al;cases hai:decide (d.arg=CI)
 rotate_left
 ·have hai':d.arg=CI:=of_decide_eq_true hai
  rw[uC hai']at vH;rw[hai]at HTI;obtain⟨⟨a,hxa⟩,hnl⟩:=hid hai';obtain⟨c,st,hty⟩:∃c st,d.ty=.one c st:=by
   cases hdt:d.ty with
   |one c st=>exact⟨c,st,rfl⟩
   |list t st=>rw[hdt]at hnl;cases hnl
  rw[hty]at hTy hps vH;obtain⟨kt,rfl, -,hbt⟩:=hTy;have yN:=HXA.o;rw[hxa]at yN x3;obtain⟨gA,cA',evA,hcA⟩:=Cn yN (fun _=>rfl) 0 a rfl;have eA:=(Value.slice.inj evA).1;subst eA;have y3:w0.cell? ⟨gA,3,none⟩=some (.string a.2.2.2):=by have:=hcA 3 _ rfl;simpa using this
  have lgA:=tR w0 _ y3;have hasz1:a.2.2.2.size<=4000:=hasz a (by rw[hxa];exact List.mem_singleton_self _);have HAK:=Aa (fun(X:World) (hX':vE w0 X) (vd ve vp:Value) (hx:CR X w0.heap.size M T V pp.length s vd ve vp)=>Zl hX' hX.s hX.g hX.v hX.t hx.b a.2.2.2 c (by unfold maxLen;omega));have hask:Kx E a.2.2.2 c=Ky (LO.map Prod.fst) (LU.map Prod.fst) c (Eg (LO.map Prod.fst) roles vid rows a.2.2.2):=by
   unfold Kx Ky AJ.obj;rw[hX.ew,hX.eo,hX.eu]
  have HRW:=Aa (fun(X:World) (q:Option Addr) (hX':FT w0.heap.size kM w X) (hm:MK X w0.heap.size M T V pp.length s) (hq:Ks w0 gO LO q (Ky (LO.map Prod.fst) (LU.map Prod.fst) c (Eg (LO.map Prod.fst) roles vid rows a.2.2.2)))=>(show Calls prog 185 #[.pointer (some ⟨M,0,none⟩),.pointer q,.slice aP fps.length cP] X (AQ X w0.heap.size M T V pp.length (.int .i64 RES.1) RES.2)from by
   rw[vH.o];have earg:Dc x=a.2:=by unfold Dc;rw[hxa];rfl
   simp only[earg,Sn];refine VI hO (hb.trans hX'.below) hm hR h0 hf hp0 (by rw[hask];exact hq) (fun r' hr=>?_) hpl (hX'.own hv (by decide));unfold Kx at hr;cases hrw:E.row a.2.2.2 with
   |none=>rw[hrw]at hr;cases hr
   |some r1=>
    rw[hrw,Option.bind_some]at hr;split at hr
    ·cases hr
    ·rename_i hcond
     have e1:=tY hr;subst e1;refine⟨hX.ok.row _ _ hrw,hX.sz.row _ _ hrw,⟨fun p hp=>⟨c,hps p hp,?_⟩,hmet⟩⟩;rw[Bool.or_eq_true,not_or]at hcond;simpa using hcond.2))
  have HST:=Aa (fun(X:World) (hX':FT w0.heap.size kM w X)=>uV (((hb.trans hX'.below).cell (p:=⟨gs,os+3,none⟩) lgs).trans x3) (uV (((hb.trans hX'.below).cell (p:=⟨gA,3,none⟩) lgA).trans y3) (uV (((hb.trans hX'.below).cell (p:=⟨gF,oF+5,none⟩) (tR w0 _ hFd.c5)).trans hFd.c5) (((hb.trans hX'.below).cell (p:=⟨kt,0,none⟩) (Ab hbt)).trans (Ac hbt 0)))));have lgF:=tR w0 _ hFd.c5;have lkt:=Ab hbt;unfold AQ at HRW⊢;clear hX hO hfit hps hmet hv hrow hsel hFd vH hask hc hok hcA evA yN HXA hbt hid hasz hxa;generalize Ky (LO.map Prod.fst) (LU.map Prod.fst) c (Eg (LO.map Prod.fst) roles vid rows a.2.2.2)=vr at*;go_enter func132,ntmps132;go_wp2_with fail;generalize w.alloc (.cells #[.pointer (some ⟨gs,os,none⟩),.slice aP fps.length cP] 209)=W1 at*;refine HCL.o.mono ?_;rintro _ w2 ⟨rfl,hw2⟩;have hw2:=hw2.symm;subst hw2;go_wp2_with fail;refine HTI.o.mono ?_;rintro _ w2 ⟨rfl,hw2⟩;have hw2:=hw2.symm;subst hw2;obtain⟨vd,ve,vp,hx5⟩:=HMA.o;have HAK2:=Aa (HAK.o W1.drew (HBA.o.trans (tM _ _).drew) vd ve vp (hx5.below (tM _ _).drew));have HSS:=Aa (fun V' (hV:FT w0.heap.size kM W1 V')=>uV hV (uV (Ac (hV.at wI.o (by decide))) (uV (HST.o V' (HFA.o.trans hV)).1 (uV (HST.o V' (HFA.o.trans hV)).2.1 (uV (HST.o V' (HFA.o.trans hV)).2.2.1 (uV (HST.o V' (HFA.o.trans hV)).2.2.2 (uV (tV (Ab wI.o) hV.size) (uV (tV lgs (tQ hzA hV.size)) (uV (tV lgA (tQ hzA hV.size)) (uV (tV lgF (tQ hzA hV.size)) (tV lkt (tQ hzA hV.size))))))))))));clear hx5 HAK HST HCL HTI;go_wp2_with fail;go_region_held3 (fun V'=>FT w0.heap.size kM W1 V'/\(∀j,V'.cell? ⟨w.heap.size,j,none⟩=(#[.pointer (some ⟨gs,os,none⟩),.slice aP fps.length cP]:Array Value)[j]?)/\V'.cell? ⟨gs,os+3,none⟩=some (.slice (some ⟨gA,0,none⟩) 1 cA)/\V'.cell? ⟨gA,3,none⟩=some (.string a.2.2.2)/\V'.cell? ⟨gF,oF+5,none⟩=some (.pointer (some ⟨kt,0,none⟩))/\V'.cell? ⟨kt,0,none⟩=some (.string c)/\w.heap.size<V'.heap.size/\gs<V'.heap.size/\gA<V'.heap.size/\gF<V'.heap.size/\kt<V'.heap.size)
   (first|exact HSS.o _ (FT.refl _ _ _).dr|exact HSS.o _ ((FT.refl _ _ _).dr.bt b6 hzA)|exact HSS.o _ (((FT.refl _ _ _).dr.bt b6 hzA).trans f7))
   (first|(go_at_call 186;refine HAK2.o.mono ?_;rintro _ w6 ⟨q,rfl,b6,hq⟩)|(go_at_call 185;refine(HRW.o w6 q ((HFA.o.dr).bt b6 hwz) ((HMA.o.below (tM _ _).drew).below b6) hq).mono ?_;rintro _ w7 ⟨rfl,h7,f7⟩))
  all_goals(
   have H7:=Aa h7;have F7:=Aa (((HFA.o.dr).bt b6 hwz).trans f7);clear h7 f7 b6 hq;go_wp2_with fail;go_ret;exact⟨rfl,H7.o,F7.o⟩)
 have hai':d.arg≠CI:=of_decide_eq_false hai;rw[uB hai']at vH;rw[hai]at HTI;have xV:=hrow.a _ HFA.o;obtain⟨vC,hc2,hpc⟩:=xV.c2;have HCO:=Aa (TK _ g o vC d.name l hc2 hpc xV.n);have hva:=hrow.v d.name;have hvs:=hrs d.name;have hcap:=xV.cap d.name;have hln:=hva.ln hvs;generalize hfv:EC l d.name=fv at*;generalize hcm:Fm r d.name=cm at*;obtain⟨rv,hrv⟩:∃rv,rv=if x.args=[]then cm else KI (Dc x) cm:=⟨_,rfl⟩;obtain⟨ln',yJ⟩:∃ln':Nat,ln'=if x.args=[]then fv.ln else Js (Dc x).1 (Dc x).2.1 fv.ln:=⟨_,rfl⟩;have HRV:=Aa (show RES=Bj E (AR E f) rv d.ty fps s from by
  rw[vH.o,hrv];split<;>rfl)
 have hva':AX w0 (fun g=>g<w0.heap.size) 1603 ⟨fv.sh,fv.n,fv.s,fv.la,ln',fv.lc⟩ rv:=by
  rw[hrv,yJ];split
  ·exact hva
  ·exact hva.first (Dc x)
 have hvs':VS 1603 rv:=by
  rw[hrv];split
  ·exact hvs
  ·exact hvs.first
 have hfit':Fi E rv d.ty:=by
  rw[hrv];split
  ·exact hfit
  ·exact hfit.first _
 obtain⟨ku,hku⟩:=hTy.ptr;have HVC:=Aa (fun(X:World) (hX':FT w0.heap.size kM w X) (hm:MK X w0.heap.size M T V pp.length s)=>(show Calls prog 189 #[.pointer (some ⟨M,0,none⟩),.agg #[.int .i64 fv.sh,.int .i64 fv.n,.string fv.s,.slice fv.la ln' fv.lc],u,.slice aP fps.length cP] X (AQ X w0.heap.size M T V pp.length (.int .i64 RES.1) RES.2)from by
  rw[HRV.o];exact VK hX hf5 hO 1603 (tL _) X s ⟨fv.sh,fv.n,fv.s,fv.la,ln',fv.lc⟩ rv d.ty u fps (.slice aP fps.length cP) B2 Bt (hb.trans hX'.below) hm hR h0 hf hp0 hd1 hva' hvs' hfit' hTy hps hmet hpl (hX'.own hv (by decide))))
 have HST:=Aa (fun(X:World) (hX':FT w0.heap.size kM w X)=>uV (((hb.trans hX'.below).cell (p:=⟨gs,os+3,none⟩) lgs).trans x3) (uV (((hb.trans hX'.below).cell (p:=⟨gF,oF+5,none⟩) (tR w0 _ hFd.c5)).trans hFd.c5) (((hb.trans hX'.below).cell (p:=⟨gF,oF,none⟩) (tR w0 _ hFd.c0)).trans hFd.c0)));have lgF:=tR w0 _ hFd.c5;have HAR:=Aa (show x.args≠[]->∃gA,aA=some ⟨gA,0,none⟩/\gA<w0.heap.size/\∀X,FT w0.heap.size kM w X->X.cell? ⟨gA,1,none⟩=some (.int .i64 (Dc x).1)/\X.cell? ⟨gA,2,none⟩=some (.int .i64 (Dc x).2.1)/\X.cell? ⟨gA,3,none⟩=some (.string (Dc x).2.2)from fun hne=>by
  obtain⟨a,al,hxa⟩:∃a al,x.args=a::al:=by
   cases hq:x.args with
   |nil=>exact absurd hq hne
   |cons a al=>exact⟨a,al,rfl⟩
  obtain⟨gA,cA',evA,hcA⟩:=Cn HXA.o (fun _=>rfl) 0 a (by rw[hxa];rfl);have earg:Dc x=a.2:=by unfold Dc;rw[hxa];rfl
  have y1:w0.cell? ⟨gA,1,none⟩=some (.int .i64 a.2.1):=by have:=hcA 1 _ rfl;simpa using this
  have y2:w0.cell? ⟨gA,2,none⟩=some (.int .i64 a.2.2.1):=by have:=hcA 2 _ rfl;simpa using this
  have y3:w0.cell? ⟨gA,3,none⟩=some (.string a.2.2.2):=by have:=hcA 3 _ rfl;simpa using this
  have lA:=tR w0 _ y1;refine⟨gA,(Value.slice.inj evA).1,lA,fun X hX'=>?_⟩;rw[earg];exact⟨((hb.trans hX'.below).cell (p:=⟨gA,1,none⟩) lA).trans y1,((hb.trans hX'.below).cell (p:=⟨gA,2,none⟩) lA).trans y2,((hb.trans hX'.below).cell (p:=⟨gA,3,none⟩) lA).trans y3⟩)
 have HLN:=Aa yJ;have HFI:=Aa (fun(X:World)=>kL X fv.la fv.ln fv.lc (Dc x).1 (Dc x).2.1 (Dc x).2.2 hcap (by omega));subst hku;unfold AQ at HVC⊢;unfold Ck at HCO;clear hX hO hfit hps hmet hv hrow hsel hFd vH HRV xV hc2 hpc hva hvs hva' hvs' hfit' hrv hc hok HXA hTy hid hasz hfv hcm hai' hai yJ;generalize hxl:x.args.length=xl at*;have HXL:=Aa hxl;clear hxl;generalize (Dc x).1=ak at*;generalize (Dc x).2.1=an at*;generalize (Dc x).2.2=at_ at*;obtain⟨fsh,fn,ft,fla,fln,flc⟩:=fv;simp only[]at HCO hcap hln HVC HLN HFI;go_enter func132,ntmps132;go_wp2_with fail;generalize w.alloc (.cells #[.pointer (some ⟨gs,os,none⟩),.slice aP fps.length cP] 209)=W1 at*;refine HCL.o.mono ?_;rintro _ w2 ⟨rfl,hw2⟩;have hw2:=hw2.symm;subst hw2;go_wp2_with fail;refine HTI.o.mono ?_;rintro _ w2 ⟨rfl,hw2⟩;have hw2:=hw2.symm;subst hw2;obtain⟨t3,t5,t0⟩:=HST.o W1 HFA.o;have lgF1:gF<W1.heap.size:=tV lgF hzA;clear HCL HTI;go_wp2_with fail;refine HCO.o.mono ?_;rintro _ w3 ⟨rfl,b3⟩;have HB3:=Aa b3;have hbA:=bA (tM w3.heap.size w3) (.cells #[.int .i64 fsh,.int .i64 fn,.string ft,.slice fla fln flc] 238);have HK3:=Aa (tS w3 (.cells #[.int .i64 fsh,.int .i64 fn,.string ft,.slice fla fln flc] 238));have F3:=Aa (HFA.o.bt (bT b3 hbA) hwz);have H3:=Aa (HMA.o.below (bT b3 hbA));have HL3:=Aa (((bT b3 hbA).block _ (Ab wI.o)).trans wI.o);have hws:w.heap.size<=w3.heap.size:=(HFA.o.bt b3 hwz).size;clear b3 hbA HCO t3 t5 t0 HMA;go_upto_region 6 with fail;generalize w3.alloc (.cells #[.int .i64 fsh,.int .i64 fn,.string ft,.slice fla fln flc] 238)=W3 at*;obtain⟨t3,t5, -⟩:=HST.o W3 F3.o;have cL:=Ac HL3.o;have lL:=Ab HL3.o;have cK:=Ac HK3.o;have fK:=Am HK3.o;have lK:=Ab HK3.o;have hz3:w0.heap.size<=W3.heap.size:=tQ hwz F3.o.size;have lgs3:gs<W3.heap.size:=tV lgs hz3
 go_upto_if 57 with fail
 go_cut [] (fun wc=>FT w0.heap.size kM w wc/\MK wc w0.heap.size M T V pp.length s/\wc.heap[w.heap.size]?=some (.cells #[.pointer (some ⟨gs,os,none⟩),.slice aP fps.length cP] 209 (0,0))/\wc.heap[w3.heap.size]?=some (.cells #[.int .i64 fsh,.int .i64 fn,.string ft,.slice fla ln' flc] 238 (0,0)))
 case first=>
  by_cases hne:x.args=[]
  ·have hxl0:xl=0:=by rw[<-HXL.o,hne];rfl
   subst hxl0;have HL:=Aa (show ln'=fln from by rw[HLN.o,uC hne]);clear hne;go_wp2_with fail;go_meet;rw[HL.o];exact⟨F3.o,H3.o,HL3.o,HK3.o⟩
  ·have hpos:0<xl:=by rw[<-HXL.o];exact List.length_pos_iff.2 hne
   have hl0:decide ((0:Int)<(xl:Int))=true:=by simp;omega
   have hl1:(0:Int)<(xl:Int):=by omega
   have HL:=Aa (show ln'=Js ak an fln from by rw[HLN.o,uB hne]);obtain⟨gA,eA,lgA,hA⟩:=HAR.o hne;subst eA;obtain⟨a1,a2,a3⟩:=hA W3 F3.o;have lgA3:gA<W3.heap.size:=tV lgA hz3;have HKF:=Aa (fun(X:World) (hX':vE W3 X)=>(hX'.block _ (Ab HK3.o)).trans HK3.o);have hneK:¬w.heap.size=w3.heap.size:=DW HL3.o HK3.o (by decide);generalize Js ak an fln=nl at*;clear hne hA;go_wp2_with fail;go_region_with (go_at_call 188;refine(HFI.o _).mono ?_;rintro _ w6 ⟨rfl,b6⟩;have hb6:vE W3 w6:=(by first|exact b6|exact(tM _ _).drew.trans b6);have k6:=HKF.o w6 hb6;have ck6:=Ac k6;have fk6:=Am k6;have lk6:=Ab k6);all_goals(
    have HB6:=Aa hb6;have HK6:=Aa k6;clear b6 hb6 k6;go_wp2_with fail;go_meet;rw[HL.o];have hF6:=F3.o.bt HB6.o hwz;refine⟨hF6.sn hwz _ hws _,(H3.o.below HB6.o).stN HK6.o (by decide) (by decide) 3 _,?_,AI HK6.o 3 _⟩;exact(tX _ _ _ _ hneK).trans ((HB6.o.block _ (Ab HL3.o)).trans HL3.o))
 case rest=>
  obtain⟨f4,h4,k4,k5⟩:=hcut;have F4:=Aa f4;have H4:=Aa h4;have hz4:w0.heap.size<=wc.heap.size:=tQ hwz f4.size;have HVC2:=Aa (HVC.o wc.drew f4.dr (h4.below (tM _ _).drew));have HSS:=Aa (fun V' (hV:FT w0.heap.size kM wc V')=>uV hV (uV (Ac (hV.at k4 (by decide))) (uV (Ac (hV.at k5 (by decide))) (uV (HST.o V' (f4.trans hV)).2.1 (uV (tV (Ab k4) hV.size) (uV (tV (Ab k5) hV.size) (tV lgF (tQ hz4 hV.size))))))));clear f4 h4 k4 k5 HVC cL cK fK t3 t5 HAR HFI;go_wp2_with fail;go_region_held3 (fun V'=>FT w0.heap.size kM wc V'/\(∀j,V'.cell? ⟨w.heap.size,j,none⟩=(#[.pointer (some ⟨gs,os,none⟩),.slice aP fps.length cP]:Array Value)[j]?)/\(∀j,V'.cell? ⟨w3.heap.size,j,none⟩=(#[.int .i64 fsh,.int .i64 fn,.string ft,.slice fla ln' flc]:Array Value)[j]?)/\V'.cell? ⟨gF,oF+5,none⟩=some (.pointer (some ⟨ku,0,none⟩))/\w.heap.size<V'.heap.size/\w3.heap.size<V'.heap.size/\gF<V'.heap.size)
   (first|exact HSS.o _ (FT.refl _ _ _).dr|exact HSS.o _ ((FT.refl _ _ _).dr.trans f7))
   (first|(go_at_call 189;refine HVC2.o.mono ?_;rintro _ w7 ⟨rfl,h7,f7⟩))
  all_goals(
   have H7:=Aa h7;have F7:=Aa (F4.o.dr.trans f7);clear h7 f7;go_wp2_with fail;go_ret;exact⟨rfl,H7.o,F7.o⟩)
end
end Go.Proofs.YtadneapobijejaaGreatDoor
