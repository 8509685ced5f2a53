import Derived.Test.YtogdodlibkckkaaGreatDoorZ06
import Derived.Deep.RegionLaw
import Derived.Deep.AppendLies
import Derived.Deep.DrawnRows
namespace Go.Proofs.YtogdodlibkckkaaGreatDoor
set_option maxHeartbeats 20000000
set_option maxRecDepth 100000
open Go.RowKit Tryz
attribute [local go_sem ↓] Go.wp_at_zero Go.wp_at_succ
theorem uC(x:yF)(w:World):Calls prog 177 #[.string x] w fun e w'=>e=.returned (.bool (RN x))/\w'=w:=by
 have a:=Aa (kH x);cases b:(x.toList==[114,111,108,101])
 ·cases c:(x.toList==[116,121,112,101])
  ·cases d:(x.toList==[105,110,116,101,114,102,97,99,101])
   ·cases f:(x.toList==[117,110,105,111,110])
    ·go_enter func177,ntmps177
     go_wp2
     go_ret;exact⟨Al (by rw[a.o,b,c,d,f];rfl),rfl⟩
    ·go_enter func177,ntmps177
     go_wp2
     go_ret;exact⟨Al (by rw[a.o,b,c,d,f];rfl),rfl⟩
   ·go_enter func177,ntmps177
    go_wp2
    go_ret;exact⟨Al (by rw[a.o,b,c,d];rfl),rfl⟩
  ·go_enter func177,ntmps177
   go_wp2
   go_ret;exact⟨Al (by rw[a.o,b,c];rfl),rfl⟩
 ·go_enter func177,ntmps177
  go_wp2
  go_ret;exact⟨Al (by rw[a.o,b];rfl),rfl⟩
def DR:Nat->St->List yF×St
 |0,s=>([],s)
 |f+1,s=>if NP s=true then(nm s::(DR f (nmT s)).1,(DR f (nmT s)).2)else([],s)
theorem XB(f:Nat)(s:St)(a:NP s=false):DR f s=([],s):=by
 cases f with
 |zero=>rfl
 |succ f=>rw[DR,xG (by rw[a];simp)]
def Me(r:List yF×St):St:=if r.1.length=0 then none else r.2
def ED(s:St):Au×St:=
 if Ae (nmT s) 9=true then(⟨nm s,(DR 801 (tl (nmT s))).1⟩,Me (DR 801 (tl (nmT s))))else(⟨nm s,[]⟩,nmT s)
theorem info9':(prog.info? 9).map (fun i=>(i.zero,i.size,i.bytes))=some (some (.string ⟨#[]⟩),1,16):=by kernel_rfl
theorem Ms{w:World}{B size n k:Nat}{e:TypeId}{v:Value}{xs:List Value}(a:w.ownsRow B e size v n xs)(f:k<B):Option.some k≠v.ownBlock:=fun x=>by
 rcases a.2 with⟨y,_⟩|⟨g,cap,c,b,d,_⟩
 ·rw[y]at x;cases x
 ·rw[b]at x;have:=xD (show some k=some g from x);omega
section
variable {w X Y:World} {p b S G N B0 size n:Nat} {s:St} {e:TypeId} {v:Value} {xs:List Value} {o o':Obj}
theorem PQ.app(q:PQ w X p b S G s)(g:X.ownsRow B0 e size v n xs)(d:(X.alloc o).grownBy Y v.ownBlock)(c:w.heap.size<=N)(a:w.heap.size<=B0)(i:Nat)(u:Value):PQ w (Y.setCell ⟨N,i,none⟩ u) p b S G s:=
 ((q.al _).gr d (fun k f=>wV a (g.lt k f).1)).st _ c _
theorem KS{k:Nat}(d:X.ownsRow B0 e size v n xs)(b:(X.alloc o).grownBy Y v.ownBlock)(c:k<B0)(a:X.heap[k]?=some o'):Y.heap[k]?=some o':=
 (b.block k (by have:=Ab a;simp;omega) (Ms d c)).trans ((AJ _ _ _ (Ab a)).trans a)
theorem LM{k:Nat}(f:X.ownsRow B0 e size v n xs)(b:(X.alloc o).grownBy Y v.ownBlock)(c:k<B0)(a:X.heap[k]?=some o')(d:k≠N)(i:Nat)(u:Value):(Y.setCell ⟨N,i,none⟩ u).heap[k]?=some o':=
 (xC _ _ _ _ d).trans (KS f b c a)
theorem IE(a:X.ownsRow B0 e size v n xs)(j:N<B0)(i:Nat)(u:Value):(X.setCell ⟨N,i,none⟩ u).ownsRow B0 e size v n xs:=by
 refine⟨a.1,?_⟩;rcases a.2 with a|⟨g,cap,b,c,d,f,h⟩
 ·exact Or.inl a
 ·exact Or.inr ⟨g,cap,b,c,d,(xC _ _ _ _ (show g≠N by omega)).trans f,h⟩
theorem PQ.own(q:PQ w X p b S G s)(k:Ag b X Y)(c:X.ownsRow B0 e size v n xs)(l:w.heap.size<=B0):Y.ownsRow B0 e size v n xs:=by
 refine⟨c.1,?_⟩;rcases c.2 with f|⟨g,cap,d,h,i,a,j⟩
 ·exact Or.inl f
 ·exact Or.inr ⟨g,cap,d,h,i,(k.block g (Ab a) (by have:=q.hb;omega)).trans a,j⟩
end
theorem sI(w:World)(p b S G:Nat)(s:St)(ak:PP w p b S)(A:PS w b G s):
 Calls prog 132 #[.pointer (some ⟨p,0,none⟩)] w fun e w'=>∃u,e=.returned (.agg #[.string (ED s).1.name,u])/\w'.ownsRow w.heap.size 9 1 u (ED s).1.inc.length (Bn (ED s).1.inc)/\(ED s).1.inc.length<=802/\PQ w w' p b S G (ED s).2:=by
 obtain⟨bh,a7,bd,bf,bg⟩:=info_parts info9';have aM:=Aa (ak.pq A);have bz:=A.lt;have bE:=ak.lt;have c:=ak.c0;have F:=Aa (ED.eq_1 s);have aH:=Aa (fun W (C:PQ w W p b S G s)=>NT W p b S G s C.pp C.ps);have aL:=Aa (fun W (C:PQ w W p b S G (nmT s))=>EG W b G (nmT s) 9 C.ps);have a9:ln (tl (nmT s))<=801:=wV (BI _) (wV (Bg s) A.len);clear A ak;generalize ED s=a0 at*;generalize nm s=n at*;generalize nmT s=s1 at*;go_enter func132,ntmps132;go_wp2_with fail;refine(aH.o _ (aM.o.al _)).mono ?_;rintro _ w1 ⟨rfl,az,aE⟩;have R:=Aa ((aM.o.al _).call az aE);have aw:=Aa (aE.at (wX w _) (by omega));have aU:=Ab aw.o;have c1:=R.o.pp.c0;have bB:=R.o.pp.lt;have bo:=az.lt;clear az aE aH;go_wp2_with fail;refine(aL.o _ (R.o.al _)).mono ?_;rintro _ w2 ⟨rfl,aR,k2⟩;have aq:=(R.o.al _).call aR k2;have j:=Aa aq;have Y:=k2.at (wX w1 (.cells #[.string n,.slice none 0 0] 134)) (by omega);have O:=k2.at ((AJ w1 _ _ aU).trans aw.o) (by omega);have ar:=Aa Y;have av:=Aa O;have bs:=Ab Y;have c2:=aq.pp.c0;have bC:=aq.pp.lt;clear aR k2 aq aL aw R c1;cases ay:Ae s1 9
 ·rw[ay]at F j
  rw[xG (by decide)]at F;have j:=Aa (show PQ w w2 p b S G s1 from j.o);have ax:=Ac Y;have aN:=Ac O;have aQ:=Ak O;have aV:=Ab O;clear Y O;go_wp2_with fail;rw[F.o];refine bodyPost_ret (v:=.agg #[.string n,.slice none 0 0]) (by simp[results,results132,go_sem, *]) rfl ⟨.slice none 0 0,rfl,xF _ _ _ _,by simp,?_⟩;repeat' with_reducible first|exact j.o|refine PQ.st ?_ _ (wQ _) _
 ·rw[ay]at F j
  rw[xH rfl]at F;have j:=Aa (show PQ w w2 p b S G (tl s1)from j.o);generalize tl s1=J at*;have aY:w.heap.size<=w1.heap.size:=Nat.le_of_lt aU;clear Y O ay
  go_upto_block 0 with fail
  go_cut [] (fun wc=>∃(d:List yF) (K:Value) (a:St),PQ w wc p b S G a/\wc.heap[w1.heap.size]?=some (.cells #[.string n,K] 134 (0,0))/\wc.heap[w.heap.size]?=some (.cells #[.string ⟨#[]⟩,.slice none 0 0] 134 (0,0))/\wc.ownsRow (w1.heap.size+1) 9 1 K d.length (Bn d)/\d.length<=802/\DR 801 J=(d,a))
  case first=>
   go_wp2;go_loopg [] (ln J) (fun k wr=>∃(d:List yF) (K:Value) (a:St) (f:Nat),ln a<=k/\ln a<=f/\PQ w wr p b S G a/\wr.heap[w1.heap.size]?=some (.cells #[.string n,K] 134 (0,0))/\wr.heap[w.heap.size]?=some (.cells #[.string ⟨#[]⟩,.slice none 0 0] 134 (0,0))/\wr.ownsRow (w1.heap.size+1) 9 1 K d.length (Bn d)/\d.length+ln a<=802/\DR 801 J=(d++(DR f a).1,(DR f a).2))
   case atStart=>exact⟨[],_,J,801,wQ _,a9,j.o,ar.o,av.o,xF _ _ _ _,by simp;omega,by simp⟩
   case round=>
    obtain⟨d,K,a,f,bx,bw,q,x,r,D,bv,ab⟩:=hrel;obtain⟨T,U,rfl⟩:=An D;have N:=Aa q;have L:=Aa x;have M:=Aa r;have E:=Aa D;have Q:=Aa ab;have c3:=q.pp.c0;have bb:=q.pp.lt;have P:=Aa (Hg wr b G a 1 q.ps);have ap:=Ab x;have aD:=Ab r;clear q x r D ab j ar av c2;have z:=Aa (show NP a=(Ae a 1&&!RN (hd a).s)from rfl);cases V:Ae a 1
    ·rw[V]at P z
     have y:=Aa (show DR 801 J=(d,a)from by rw[Q.o,XB f a z.o];simp);clear V Q z;go_wp2_with fail;refine P.o.mono ?_;rintro _ w4 ⟨rfl,h⟩;go_wp2;go_meet;exact⟨d,_,a,N.o.be h,(h.block _ ap).trans L.o,(h.block _ aD).trans M.o,AT E.o h,by omega,y.o⟩
    ·rw[V]at P z
     have au:=Aa (fun W (C:PQ w W p b S G a)=>PW W b G a C.ps);have aa:=uC (hd a).s;have bA:=Li a V;have a3:=Aa (fun W (C:PQ w W p b S G a)=>Eh W b G a C.ps);have aI:=Aa (show∀t,f=t+1->NP a=true->DR 801 J=(d++(nm a::(DR t (nmT a)).1),(DR t (nmT a)).2)from fun t e A=>by subst e;rw[Q.o,DR,xH A]);have aK:=Aa (show NP a=false->DR 801 J=(d,a)from fun A=>by rw[Q.o,XB f a A];simp);clear V Q;generalize (hd a).k=a8 at*;generalize (hd a).s=aZ at*;generalize (hd a).n=ba at*;generalize nm a=m at*;have bI:=Qg a8 ba aZ;generalize nmT a=aG at*;cases aP:RN aZ
     rotate_left
     ·rw[aP]at aa z
      go_wp2_with fail;refine P.o.mono ?_;rintro _ w4 ⟨rfl,h⟩;have l:=Aa (N.o.be h);have c4:=l.o.pp.c0;have bc:=l.o.pp.lt;go_wp2_with fail;refine(au.o _ l.o).mono ?_;rintro _ w5 ⟨rfl,ah⟩;go_wp2_with fail;refine(aa _).mono ?_;rintro _ w' ⟨rfl,H⟩;have H:=H.symm;subst H;go_wp2;go_meet;have hb:=h.trans (ah.mono h.size);exact⟨d,_,a,N.o.be hb,(hb.block _ ap).trans L.o,(hb.block _ aD).trans M.o,AT E.o hb,by omega,aK.o z.o⟩
     ·rw[aP]at aa z
      obtain⟨t,rfl⟩:∃t,f=t+1:=⟨f-1,by omega⟩;have y:=Aa (aI.o t rfl z.o);go_wp2_with fail;refine P.o.mono ?_;rintro _ w4 ⟨rfl,h⟩;have l:=Aa (N.o.be h);have c4:=l.o.pp.c0;have bc:=l.o.pp.lt;go_wp2_with fail;refine(au.o _ l.o).mono ?_;rintro _ w5 ⟨rfl,ah⟩;have ae:=Aa (h.trans (ah.mono h.size));clear h ah l c4;go_wp2_with fail;refine(aa _).mono ?_;rintro _ w' ⟨rfl,H⟩;have H:=H.symm;subst H;have i:=Aa (N.o.be ae.o);have ai:=(ae.o.block _ ap).trans L.o;have a2:=Aa ai;have a5:=Aa ((ae.o.block _ aD).trans M.o);have aJ:=Aa (AT E.o ae.o);have bi:=i.o.pp.c0;have bD:=i.o.pp.lt;have ax:=Ac ai;have bu:=Ab ai;have bp:=i.o.ps.lt;have bq:=i.o.hb;have bF:=i.o.hp;have aC:d.length<=802:=by omega
      clear ai aa au P aI aK N L M E;go_wp2;go_region_law (first
       |(refine step_append_lies _ (by rfl) _ _ _ (by rfl) (w1.heap.size+1) 9 bh _ 1 16 underlying42 a7 bd bf bg rfl (by decide) _ _ _ (by rfl) (Z.alloc _) ⟨w6.heap.size,0,none⟩ 1 1 [.string m] (by rfl) (by rfl) (cell_one_new _ _ _) (fun u aX=>by simp at aX;subst aX;rfl) (by decide) (by unfold maxLen;omega) (by omega) (by simp;omega) (w6.heap.size+1) (by simp) ?_;intro g cap w7 aW ao bn br;have X:=KS Z ao (Nat.lt_succ_self _) aj;have bl:=Ac X;have bm:=Ak X;have bH:=Ab X)
       |(go_simp;go_at_call 131;refine(a3.o _ ?_).mono ?_;(first|exact i.o.dr|exact i.o);rintro _ w6 ⟨rfl,aA,I⟩;have aF:PQ w w6 p b S G aG:=(by first|exact i.o.dr.call aA I|exact i.o.call aA I);have aj:=I.at a2.o (by omega);have bj:=Ac aj;have Z:=(by first|exact i.o.dr.own I aJ.o (by omega)|exact i.o.own I aJ.o (by omega));have bG:=Ab aj;have bJ:=aF.pp.lt))
      all_goals(
       have aT:=I.at a5.o (by omega);have af:=Aa (xZ (aF.app Z ao aY (Nat.le_succ_of_le aY) 1 (.slice (some ⟨g,0,none⟩) (d.length+1) cap)) (xZ (AI X 1 (.slice (some ⟨g,0,none⟩) (d.length+1) cap)) (xZ (LM Z ao (show w.heap.size<w1.heap.size+1 by omega) aT (show w.heap.size≠w1.heap.size by omega) 1 (.slice (some ⟨g,0,none⟩) (d.length+1) cap)) (IE aW (Nat.lt_succ_self _) 1 (.slice (some ⟨g,0,none⟩) (d.length+1) cap)))));clear ao aW aA I Z aj aT aF X;go_wp2;go_roundg (ln aG)
       case measure=>omega
       case rel=>exact⟨d++[m],_,aG,t,wQ _,by omega,af.o.1,af.o.2.1,af.o.2.2.1,by rw[Oa,xJ];exact af.o.2.2.2,by simp;omega,by rw[y.o];simp⟩)
  case rest=>
   obtain⟨d,K,a,q,x,r,D,aC,ab⟩:=hcut;obtain⟨T,U,rfl⟩:=An D;have ag:=Aa q;have L:=Aa x;have M:=Aa r;have E:=Aa D;have ax:=Ac x;have ap:=Ab x;have c3:=q.pp.c0;have bb:=q.pp.lt;have y:=Aa (show a0=(⟨n,d⟩,Me (d,a))from by rw[F.o,ab]);clear q ab F j ar av c2;by_cases aO:d.length=0
   ·have a6:((d.length:Int)==0)=true:=by rw[beq_iff_eq];omega
    have a1:=Aa (Gc wc b G a ag.o.ps);rw[show Me (d,a)=none from xH aO]at y;clear x r D;go_wp2_with fail;refine a1.o.mono ?_;rintro _ w4 ⟨rfl,aS,ad⟩;have l:=Aa (ag.o.call aS ad);have aB:=ad.at L.o (by omega);have am:=ad.at M.o (by omega);have a4:=Aa (ag.o.own ad E.o (by omega));have bk:=Ac aB;have aN:=Ac am;have aQ:=Ak am;have bt:=Ab aB;have aV:=Ab am;clear aS ad aB am ax;go_wp2_with fail;rw[y.o];refine bodyPost_ret (v:=.agg #[.string n,.slice T d.length U]) (by simp[results,results132,go_sem, *]) rfl ⟨.slice T d.length U,rfl,?_,aC,?_⟩
    ·refine FE (B:=w1.heap.size+1) ?_ (by omega)
     repeat' with_reducible first|exact a4.o|refine IE ?_ (show w.heap.size<w1.heap.size+1 by omega) _ _
    ·repeat' with_reducible first|exact l.o|refine PQ.st ?_ _ (wQ _) _
   ·have a6:((d.length:Int)==0)=false:=by rw[beq_eq_false_iff_ne];omega
    rw[show Me (d,a)=a from xG aO]at y;have aN:=Ac r;have aQ:=Ak r;have aV:=Ab r;clear x r D;go_wp2_with fail;rw[y.o];refine bodyPost_ret (v:=.agg #[.string n,.slice T d.length U]) (by simp[results,results132,go_sem, *]) rfl ⟨.slice T d.length U,rfl,?_,aC,?_⟩
    ·refine FE (B:=w1.heap.size+1) ?_ (by omega)
     repeat' with_reducible first|exact E.o|refine IE ?_ (show w.heap.size<w1.heap.size+1 by omega) _ _
    ·repeat' with_reducible first|exact ag.o|refine PQ.st ?_ _ (wQ _) _
attribute [local go_sem ↓] Go.wp_at_zero Go.wp_at_succ
inductive Br where
 |all
 |is (n:yF)
 |eq (n:yF) (v:Option (Nat×Int×yF))
 |not (r:Br)
 |chain (or:Bool) (l:List Br)
def Ce(v:Nat×Int×yF):Nat×Int×yF:=if v.1=3 then(if v.2.1=1 then(3,0,⟨#[]⟩)else(4,0,⟨#[]⟩))else if v.1=4 then(6,v.2.1,v.2.2)else if v.1=5 then(7,v.2.1,v.2.2)else if v.1=6 then(8,v.2.1,v.2.2)else v
def Fy:Option (Nat×Int×yF)->Nat×Int×yF
 |none=>(5,0,⟨#[]⟩)
 |some y=>Ce y
inductive BG(w:World)(Q:Nat->Prop):Value->Br->Prop
 |all (k:Nat) (n z:yF) (x y:Int):Q k->w.heap[k]?=some (.cells #[.string n,.int .i64 3,.slice none 0 0,.int .i64 x,.int .i64 y,.string z] 206 (0,0))->BG w Q (.pointer (some ⟨k,0,none⟩)) .all
 |is (k:Nat) (n z:yF) (x y:Int):Q k->w.heap[k]?=some (.cells #[.string n,.int .i64 4,.slice none 0 0,.int .i64 x,.int .i64 y,.string z] 206 (0,0))->BG w Q (.pointer (some ⟨k,0,none⟩)) (.is n)
 |eq (k:Nat) (n:yF) (o:Option (Nat×Int×yF)):Q k->w.heap[k]?=some (.cells #[.string n,.int .i64 5,.slice none 0 0,.int .i64 (Fy o).1,.int .i64 (Fy o).2.1,.string (Fy o).2.2] 206 (0,0))->BG w Q (.pointer (some ⟨k,0,none⟩)) (.eq n o)
 |not (k:Nat) (n z:yF) (x y:Int) (v u:Value) (t:Br):Q k->w.heap[k]?=some (.cells #[.string n,.int .i64 2,v,.int .i64 x,.int .i64 y,.string z] 206 (0,0))->w.ownsRow 0 147 1 v 1 [u]->(∀g,v.ownBlock=some g->Q g)->BG w Q u t->BG w Q (.pointer (some ⟨k,0,none⟩)) (.not t)
 |chain (k:Nat) (o:Bool) (n z:yF) (x y:Int) (v:Value) (vs:List Value) (ts:List Br):Q k->w.heap[k]?=some (.cells #[.string n,.int .i64 (if o=true then 0 else 1:Nat),v,.int .i64 x,.int .i64 y,.string z] 206 (0,0))->w.ownsRow 0 147 1 v vs.length vs->(∀g,v.ownBlock=some g->Q g)->vs.length<=802->vs.length=ts.length->(∀(j:Nat) (u:Value) (t:Br),vs[j]?=some u->ts[j]?=some t->BG w Q u t)->BG w Q (.pointer (some ⟨k,0,none⟩)) (.chain o ts)
section
variable {w w':World} {Q R:Nat->Prop} {v:Value} {t:Br} {B:Nat}
theorem BG.ptr(a:BG w Q v t):∃k,v=.pointer (some ⟨k,0,none⟩):=by cases a<;>exact⟨_,rfl⟩
theorem BG.move(d:∀(k:Nat) (cs:Array Value) (T:TypeId) (m:Nat×Nat),Q k->(T=206\/T=147)->w.heap[k]?=some (.cells cs T m)->w'.heap[k]?=some (.cells cs T m)/\R k)(B:BG w Q v t):BG w' R v t:=by
 have row:∀{v:Value} {n:Nat} {us:List Value},w.ownsRow 0 147 1 v n us->(∀g,v.ownBlock=some g->Q g)->w'.ownsRow 0 147 1 v n us/\∀g,v.ownBlock=some g->R g:=fun{v n us} c i=>by
  rcases c.2 with q|⟨g,cap,s,j,h,C,r⟩
  ·exact⟨⟨c.1,Or.inl q⟩,fun g h=>by rw[q.1]at h;cases h⟩
  ·have:=d g _ _ _ (i g (by rw[j];rfl)) (Or.inr rfl) C
   exact⟨⟨c.1,Or.inr ⟨g,cap,s,j,h,this.1,r⟩⟩,fun A p=>by rw[j]at p;have e:=xD (show some g=some A from p);rw[<-e];exact this.2⟩
 induction B with
 |all k n z x y a b=>have:=d k _ _ _ a (Or.inl rfl) b;exact .all k n z x y this.2 this.1
 |is k n z x y a b=>have:=d k _ _ _ a (Or.inl rfl) b;exact .is k n z x y this.2 this.1
 |eq k n o a b=>have:=d k _ _ _ a (Or.inl rfl) b;exact .eq k n o this.2 this.1
 |not k n z x y v u t a b f c _ l=>have:=d k _ _ _ a (Or.inl rfl) b;exact .not k n z x y v u t this.2 this.1 (row f c).1 (row f c).2 l
 |chain k o n z x y v vs ts a b f c i h6 _ l=>have:=d k _ _ _ a (Or.inl rfl) b;exact .chain k o n z x y v vs ts this.2 this.1 (row f c).1 (row f c).2 i h6 l
theorem BG.imp(c:∀k,Q k->k<w.heap.size->R k)(a:BG w Q v t):BG w R v t:=a.move (fun k _ _ _ b _ hb=>⟨hb,c k b (Ab hb)⟩)
theorem BG.stays(d:Ap 206 B w w')(f:Ap 147 B w w')(c:BG w (fun k=>B<=k) v t):BG w' (fun k=>B<=k) v t:=
 c.move (fun k cs T b a g hb=>⟨by
  rcases g with e|e
  ·subst e;exact d k cs b a hb
  ·subst e;exact f k cs b a hb,a⟩)
theorem BG.keep{b G:Nat}{s:St}(hs:PS w b G s)(h:Ag b w w')(i:∀k,Q k->k<w.heap.size->R k)(a:BG w Q v t):BG w' R v t:=
 a.move (fun k cs T j d f hb=>by
  obtain⟨c,g⟩:=hs.ty;refine⟨h.at hb (fun e=>?_),i k d (Ab hb)⟩;subst e;rw[g]at hb;cases hb;rcases f with e|e<;>cases e)
end
def Gh(word:yF)(part:St->Br×St):Nat->List Br->St->List Br×St
 |0,a,s=>(a,s)
 |f+1,a,s=>if Bu s word=true then Gh word part f (a++[(part (tl s)).1]) (part (tl s)).2 else(a,s)
def CY(o:Bool)(word:yF)(part:St->Br×St)(s:St):Br×St:=(.chain o (Gh word part 801 [(part s).1] (part s).2).1,(Gh word part 801 [(part s).1] (part s).2).2)
theorem uO(word:yF)(part:St->Br×St)(f:Nat)(a:List Br)(s:St)(b:Bu s word=false):Gh word part f a s=(a,s):=by
 cases f with
 |zero=>rfl
 |succ f=>rw[Gh,xG (by rw[b];simp)]
theorem Mn(s:St)(x:yF)(a:Bu s x=true):ln (tl s)<ln s:=by
 refine ET s 1 (by decide) ?_;unfold Bu at a;unfold Ae;exact(xQ _ _▸a).1
theorem Wz(word:yF)(part:St->Br×St)(b:∀s,ln (part s).2<=ln s):∀(f:Nat) (a:List Br) (s:St),ln (Gh word part f a s).2<=ln s
 |0,_,_=>wQ _
 |f+1,a,s=>by
  rw[Gh];split
  ·exact wV (Wz word part b f _ _) (wV (b _) (BI s))
  ·exact wQ _
theorem Pu(o:Bool)(word:yF)(part:St->Br×St)(a:∀s,ln (part s).2<=ln s)(s:St):ln (CY o word part s).2<=ln s:=
 wV (Wz word part a _ _ _) (a s)
theorem info147:(prog.info? 147).map (fun i=>(i.zero,i.size,i.bytes))=some (some (.pointer none),1,8):=by kernel_rfl
def LJ(a:Nat)(p b S G n:Nat)(part:St->Br×St):Prop:=∀(W:World) (s:St),ln s<=n->PP W p b S->PS W b G s->Calls prog a #[.pointer (some ⟨p,0,none⟩)] W fun e w'=>∃u,e=.returned u/\BG w' (fun k=>W.heap.size<=k) u (part s).1/\PQ W w' p b S G (part s).2
def Gq:yF:=⟨#[97,110,100]⟩
def Gt:yF:=⟨#[111,114]⟩
theorem Uu(V c:Nat)(word:yF)(o:Bool)(a5:V=252\/V=225)(aD:c=if o=true then 0 else 1)(w:World)(p b S G n:Nat)(part:St->Br×St)(s:St)(aK:LJ V p b S G n part)(ar:∀s,ln (part s).2<=ln s)(aF:ln s<=n)(bd:n<=801)(ab:PP w p b S)(Y:PS w b G s):
 Calls prog 224 #[.pointer (some ⟨p,0,none⟩),.int .i64 c,.string word,.func (Fn.func V) #[.pointer (some ⟨p,0,none⟩)] #[]] w fun e w'=>∃u,e=.returned u/\BG w' (fun k=>w.heap.size<=k) u (CY o word part s).1/\PQ w w' p b S G (CY o word part s).2:=by
 obtain⟨bk,a7,bg,bh,bi⟩:=info_parts info147;have aQ:=Aa aD;clear aD;have aY:=Aa (ab.pq Y);have bD:=Y.lt;have bu:=Y.glt;have bI:=ab.lt;have bp:=ab.c0;have Q:=Aa (fun W a (D:PQ w W p b S G a) (hs:ln a<=ln s)=>aK W a (wV hs aF) D.pp D.ps);have aA:=Aa (fun W a (D:PQ w W p b S G a)=>Lw W b G a word D.ps);have ag:=Aa (Q.o · s · (wQ _));have ah:=Aa (CY.eq_1 o word part s);have aR:=Aa ar;have aG:=ar s;have bF:ln s<=801:=wV aF bd;clear Y ab aK ar;generalize CY o word part s=aP at*;generalize part s=a2 at*;obtain⟨ax,s1⟩:=a2;simp only[]at ag ah aG;rcases a5 with rfl|rfl;all_goals(
  go_enter func224,ntmps224;go_wp2_with fail;refine(ag.o _ aY.o).mono ?_;rintro _ w1 ⟨u,rfl,i,av⟩;obtain⟨bl,rfl⟩:=i.ptr;have aC:=Aa av;have aB:=Aa i;have bf:=av.kp.size;clear i av ag;go_wp2;go_loopg [] (ln s1) (fun k wr=>∃(d:List Value) (r:List Br) (vL:Value) (a:St) (f:Nat),ln a<=k/\ln a<=f/\ln a<=ln s/\PQ w wr p b S G a/\wr.heap[w1.heap.size+1]?=some (.cells #[.string ⟨#[]⟩,.int .i64 c,vL,.int .i64 0,.int .i64 0,.string ⟨#[]⟩] 206 (0,0))/\wr.ownsRow w.heap.size 147 1 vL d.length d/\vL.ownBlock≠some (w1.heap.size+1)/\d.length=r.length/\d.length+ln a<=802/\(∀(j:Nat) (u:Value) (t:Br),d[j]?=some u->r[j]?=some t->BG wr (fun k=>w.heap.size<=k/\k<wr.heap.size/\k≠w1.heap.size+1/\vL.ownBlock≠some k) u t)/\Gh word part 801 [ax] s1=Gh word part f r a)
  case atStart=>
   have J:∀C z,((w1.alloc C).alloc z).heap[w1.heap.size+1]?=some z:=fun C z=>by have:=wX (w1.alloc C) z;simpa using this
   have a4:∀C z,yG w1 ((w1.alloc C).alloc z):=fun C z=>((wR _ _).alloc (wQ _) _).alloc (by simp) _;refine⟨[.pointer (some ⟨bl,0,none⟩)],[ax],_,s1,801,wQ _,by omega,aG,(aC.o.al _).al _,J _ _,?_,?_,rfl,by simp;omega,?_,rfl⟩
   ·exact⟨rfl,Or.inr ⟨w1.heap.size,1,_,rfl,bf,(AJ _ _ _ (by simp)).trans (wX w1 _),wQ _,by decide,rfl,rfl⟩⟩
   ·intro e;have:=xD (show some w1.heap.size=some (w1.heap.size+1)from e);omega
   ·intro j u t E m
    have a8:j=0:=by have:=(wU.1 E).1;simp at this;omega
    subst a8;cases E;cases m;refine aB.o.move (fun k cs T a3 h _ hb=>⟨((a4 _ _).block k (Ab hb)).trans hb,h,by have:=Ab hb;simp;omega,by have:=Ab hb;omega,fun e=>?_⟩);have:=xD (show some w1.heap.size=some k from e);have:=Ab hb;omega
  case round=>
   obtain⟨d,r,vL,a,f,bB,bA,bC,q,J,aq,aI,aM,bz,aL,aH⟩:=hrel;obtain⟨ak,am,rfl⟩:=An aq;have y:=Aa q;have ae:=Aa J;have P:=Aa aq;have ai:=Aa aL;have O:=Aa aH;have U:=Aa aM;have c3:=q.pp.c0;have bG:=q.pp.lt;have K:=Aa (aA.o wr a q);have bw:=Ab J;clear q J aq aL aH aM aC aB;cases B:Bu a word
   ·rw[B]at K
    have M:=Aa (show aP=(.chain o r,a)from by rw[ah.o,O.o,uO _ _ _ _ _ B]);clear B O ah Q aA;go_wp2_with fail;refine K.o.mono ?_;rintro _ w4 ⟨rfl,I,l⟩;have aT:=Aa (show PQ w w4 p b S G a from y.o.call I l);have aU:=Aa (show BG w4 (fun k=>w.heap.size<=k) (.pointer (some ⟨w1.heap.size+1,0,none⟩)) (.chain o r)from
     .chain _ o ⟨#[]⟩ ⟨#[]⟩ 0 0 (.slice ak d.length am) d r (by omega) (by rw[<-aQ.o];exact l.at ae.o (by have:=y.o.hb;omega)) (FE (y.o.own l P.o (wQ _)) (wZ _)) (fun g a6=>(P.o.lt g a6).1) (by omega) U.o (fun j u t i m=>(ai.o j u t i m).keep y.o.ps l (fun k h _=>h.1)))
    clear I l;go_wp2;go_ret;rw[M.o];exact⟨_,rfl,aU.o,aT.o⟩
   ·rw[B]at K
    have bE:=Mn a word B;have bc:=aR.o (tl a);obtain⟨X,rfl⟩:∃X,f=X+1:=⟨f-1,by omega⟩;have M:=Aa (show Gh word part 801 [ax] s1=Gh word part X (r++[(part (tl a)).1]) (part (tl a)).2 from by rw[O.o,Gh,xH B]);have az:=Aa (fun W (D:PQ w W p b S G (tl a))=>Q.o W (tl a) D (by omega));clear B O Q;generalize part (tl a)=f1 at*;obtain⟨ay,aw⟩:=f1;simp only[]at M az bc;go_wp2_with fail;refine K.o.mono ?_;rintro _ w4 ⟨rfl,I,l⟩;have F:=show PQ w w4 p b S G (tl a)from y.o.call I l;have A:=Aa F;have bs:=F.hb;have bJ:=F.hp;have Z:=l.at ae.o (by omega);have aS:=Aa Z;have af:=Aa (y.o.own l P.o (wQ _));have aV:=Aa (fun j u t i m=>(ai.o j u t i m).keep (R:=fun k=>w.heap.size<=k/\k<w4.heap.size/\k≠w1.heap.size+1/\(Value.slice ak d.length am).ownBlock≠some k) y.o.ps l (fun k h _=>⟨h.1,xA h.2.1 l.size,h.2.2⟩));have bo:=Ac Z;have bx:=Ab Z;have c4:=F.pp.c0;have bH:=F.pp.lt;clear I l F Z ae P ai y K c3;go_wp2;go_region_law (first
     |(refine step_append_lies _ (by rfl) _ _ _ (by rfl) w.heap.size 147 bk _ 1 8 underlying204 a7 bg bh bi rfl (by decide) _ _ _ (by rfl) (ao.alloc _) ⟨w6.heap.size,0,none⟩ 1 1 [.pointer (some ⟨ad,0,none⟩)] (by rfl) (by rfl) (cell_one_new _ _ _) (fun u i=>by simp at i;subst i;rfl) (by decide) (by unfold maxLen;omega) (by omega) (by simp;omega) (w6.heap.size+1) (by simp) ?_;intro g cap w7 aJ L ap bt;have H:=(L.block (w1.heap.size+1) (by simp;omega) (fun e=>aI e.symm)).trans ((AJ w6 _ _ bm).trans aa);have bq:=Ac H;have br:=Ak H;have bK:=Ab H)
     |(go_simp;refine(az.o _ ?_).mono ?_;(first|exact A.o.dr|exact A.o);rintro _ w6 ⟨u6,rfl,au,v⟩;obtain⟨ad,bb⟩:=au.ptr;subst bb;have aa:=v.kp.at aS.o (by omega);have bn:=Ac aa;have ao:=(by first|exact A.o.own v.kp af.o (wQ _)|exact A.o.dr.own v.kp af.o (wQ _));have bm:=Ab aa;have bL:=v.pp.lt))
    all_goals(
     have aN:Ag b w4 w6:=(by first|exact v.kp|exact(Ag.refl _ _).drew.trans v.kp);have aO:PQ w w6 p b S G aw:=(by first|exact A.o.tr v|exact A.o.dr.tr v);have aE:g≠w1.heap.size+1:=fun e=>by
      rcases ap with x|x
      ·exact aI (by rw[x,e])
      ·omega
     have aj:=Aa (xZ (aO.app ao L (show w.heap.size<=w1.heap.size+1 by omega) (wQ _) 2 (.slice (some ⟨g,0,none⟩) (d.length+1) cap)) (xZ (AI H 2 (.slice (some ⟨g,0,none⟩) (d.length+1) cap)) (Ds aJ (N:=w1.heap.size+1) (fun e=>aE (xD e)) 2 (.slice (some ⟨g,0,none⟩) (d.length+1) cap))));have bj:=L.size;simp at bj;have key:∀u t,BG w6 (fun k=>w.heap.size<=k/\k<w6.heap.size/\k≠w1.heap.size+1/\(Value.slice ak d.length am).ownBlock≠some k) u t->BG (w7.setCell ⟨w1.heap.size+1,2,none⟩ (.slice (some ⟨g,0,none⟩) (d.length+1) cap)) (fun k=>w.heap.size<=k/\k<(w7.setCell ⟨w1.heap.size+1,2,none⟩ (.slice (some ⟨g,0,none⟩) (d.length+1) cap)).heap.size/\k≠w1.heap.size+1/\(Value.slice (some ⟨g,0,none⟩) (d.length+1) cap).ownBlock≠some k) u t:=fun u t i=>i.move (fun k cs T a3 h _ hb=>⟨(xC _ _ _ _ h.2.2.1).trans ((L.block k (by simp;omega) (fun e=>h.2.2.2 e.symm)).trans ((AJ _ _ _ h.2.1).trans hb)),h.1,by simp[World.setCell];omega,h.2.2.1,fun e=>by
      have aZ:g=k:=xD e;rcases ap with x|x
      ·exact h.2.2.2 (by rw[x,aZ])
      ·omega⟩)
     have aW:=Aa (show∀(j:Nat) (u:Value) (t:Br),(d++[Value.pointer (some ⟨ad,0,none⟩)])[j]?=some u->(r++[ay])[j]?=some t->BG (w7.setCell ⟨w1.heap.size+1,2,none⟩ (.slice (some ⟨g,0,none⟩) (d.length+1) cap)) (fun k=>w.heap.size<=k/\k<(w7.setCell ⟨w1.heap.size+1,2,none⟩ (.slice (some ⟨g,0,none⟩) (d.length+1) cap)).heap.size/\k≠w1.heap.size+1/\(Value.slice (some ⟨g,0,none⟩) (d.length+1) cap).ownBlock≠some k) u t from fun j u t i m=>by
      rcases Nat.lt_or_ge j d.length with E|E
      ·rw[xN E]at i
       rw[xN (by rw[<-U.o];exact E)]at m;exact key u t ((aV.o j u t i m).keep A.o.ps aN (fun k h _=>⟨h.1,xA h.2.1 aN.size,h.2.2⟩))
      ·have a9:j=d.length:=by have:=(wU.1 i).1;simp at this;omega
       subst a9;have a0:u=.pointer (some ⟨ad,0,none⟩):=by simpa using i.symm
       have a1:t=ay:=by rw[U.o]at m;simpa using m.symm
       subst a0 a1;exact key _ _ (au.imp (fun k h ba=>by
        have bv:w4.heap.size<=k:=h;exact⟨by omega,ba,by omega,fun e=>by have:=(af.o.lt k e).2;omega⟩)))
     have aX:=Aa (show(d++[Value.pointer (some ⟨ad,0,none⟩)]).length=(r++[ay]).length from by simp[U.o]);clear L aJ ao aa aO v H au key ap;go_wp2;go_roundg (ln aw)
     case measure=>omega
     case rel=>exact⟨_,_,_,aw,X,wQ _,by omega,by omega,aj.o.1,aj.o.2.1,by rw[xJ];exact aj.o.2.2,fun e=>aE (xD e),aX.o,by simp;omega,aW.o,M.o⟩))
theorem Uv(p b S G n:Nat)(part:St->Br×St)(g:LJ 252 p b S G n part)(h:∀s,ln (part s).2<=ln s)(f:n<=801):LJ 225 p b S G n (CY false Gq part):=by
 intro w s e d c;have a:=Aa (Uu 252 1 Gq false (Or.inl rfl) rfl w p b S G n part s g h e f d c);generalize CY false Gq part s=k at*;unfold Gq at a;go_enter func225,ntmps225;go_wp2_with fail;refine a.o.mono ?_;rintro _ w1 ⟨u,rfl,j,i⟩;go_wp2;go_ret;exact⟨_,rfl,j,i⟩
theorem YB(p b S G n:Nat)(part:St->Br×St)(g:LJ 225 p b S G n part)(h:∀s,ln (part s).2<=ln s)(f:n<=801):LJ 179 p b S G n (CY true Gt part):=by
 intro w s e d c;have a:=Aa (Uu 225 0 Gt true (Or.inr rfl) rfl w p b S G n part s g h e f d c);generalize CY true Gt part s=k at*;unfold Gt at a;go_enter func179,ntmps179;go_wp2_with fail;refine a.o.mono ?_;rintro _ w1 ⟨u,rfl,j,i⟩;go_wp2;go_ret;exact⟨_,rfl,j,i⟩
def XJ(s:St):Nat×Int×yF:=if (hd s).k=2 then(1,(hd s).n,⟨#[]⟩)else if (hd s).k=3 then(2,0,(hd s).s)else if (hd s).k=1/\(hd s).s=Iv then(3,1,⟨#[]⟩)else if (hd s).k=1/\(hd s).s=It then(3,0,⟨#[]⟩)else(0,0,⟨#[]⟩)
def Oj(s:St):Option (Nat×Int×yF):=if Bu s Nh=true then none else some (XJ s)
theorem eE(s:St):Fy (Oj s)=MF s:=by
 unfold Oj MF;split
 ·rfl
 ·unfold Fy XJ valK KE
  by_cases d:(hd s).k=2
  ·simp[d,Ce]
  by_cases e:(hd s).k=3
  ·simp[e,Ce]
  by_cases b:(hd s).k=1
  ·by_cases a:(hd s).s=Iv
   ·simp[b,a,Ce]
   ·by_cases c:(hd s).s=It
    ·rw[c]at a;simp[b,a,c,Ce]
    ·simp[b,a,c,Ce]
  ·simp[b,d,e,Ce]
def DZ:Nat->St->Br×St
 |0=>fun s=>(.all,s)
 |f+1=>fun s=>
  if Ae s 7=true then((CY true Gt (CY false Gq (DZ f)) (tl s)).1,mustT (CY true Gt (CY false Gq (DZ f)) (tl s)).2 (Ae (CY true Gt (CY false Gq (DZ f)) (tl s)).2 8))
  else if nm s=Nb then(.not (DZ f (nmT s)).1,(DZ f (nmT s)).2)
  else if nm s=MV then(.all,nmT s)
  else if nm s=LN then(.is (nm (nmT s)),nmT (nmT s))
  else(.eq (nm s) (Oj (mustT (nmT s) (Ae (nmT s) 10))),Jg (mustT (nmT s) (Ae (nmT s) 10)))
theorem Ta(f:Nat)(s:St):DZ (f+1) s=(if Ae s 7=true then((CY true Gt (CY false Gq (DZ f)) (tl s)).1,mustT (CY true Gt (CY false Gq (DZ f)) (tl s)).2 (Ae (CY true Gt (CY false Gq (DZ f)) (tl s)).2 8))
 else if nm s=Nb then(.not (DZ f (nmT s)).1,(DZ f (nmT s)).2)
 else if nm s=MV then(.all,nmT s)
 else if nm s=LN then(.is (nm (nmT s)),nmT (nmT s))
 else(.eq (nm s) (Oj (mustT (nmT s) (Ae (nmT s) 10))),Jg (mustT (nmT s) (Ae (nmT s) 10)))):=rfl
def Of(f:Nat):St->Br×St:=CY true Gt (CY false Gq (DZ f))
theorem Wt(s:St):ln (Jg s)<=ln s:=by
 unfold Jg;split
 ·exact BI s
 ·unfold pVal
  split
  ·exact BI s
  ·split
   ·exact BI s
   ·split
    ·unfold Jo
     split
     ·exact BI s
     ·split
      ·exact BI s
      ·split
       ·exact BI s
       ·simp[ln]
    ·simp[ln]
theorem Mq:∀(f:Nat) (s:St),ln (DZ f s).2<=ln s
 |0,s=>wQ _
 |f+1,s=>by
  rw[Ta];split
  ·exact wV (DA _ _) (wV (Pu _ _ _ (Pu _ _ _ (Mq f)) _) (BI s))
  ·split
   ·exact wV (Mq f _) (Bg s)
   ·split
    ·exact Bg s
    ·split
     ·exact wV (Bg _) (Bg s)
     ·exact wV (Wt _) (wV (DA _ _) (Bg s))
theorem oM(s:St)(x:yF)(a:nm s=x)(b:0<x.size):Ae s 1=true:=by
 unfold nm at a;split at a
 ·assumption
 ·subst a;exact absurd b (by decide)
theorem vE(p b S G:Nat):∀(f:Nat),f<=801->LJ 252 p b S G f (DZ (f+1)):=by
 intro f
 induction f using Nat.strongRecOn with
 |_ f F=>
 intro ay w s az K P;have m:=Aa (K.pq P);have aA:=P.lt;have aB:=K.lt;have av:=K.c0;have y:=Aa (fun W (c:PQ w W p b S G s)=>EG W b G s 7 c.ps);have e:=Aa (Ta f s);clear P K;cases v:Ae s 7
 rotate_left
 ·rw[v]at y e
  rw[xH rfl]at e;have ak:=ET s 7 (by decide) v;obtain⟨j,rfl⟩:∃j,f=j+1:=⟨f-1,by omega⟩;have Z:=Aa (fun W (c:PQ w W p b S G (tl s))=>YB p b S G j _ (Uv p b S G j _ (F j (by omega) (by omega)) (Mq _) (by omega)) (Pu _ _ _ (Mq _)) (by omega) W (tl s) (by omega) c.pp c.ps);generalize CY true Gt (CY false Gq (DZ (j+1))) (tl s)=V at*;obtain⟨t,E⟩:=V;simp only[]at e Z;generalize DZ (j+1+1) s=H at*;have M:=Aa (fun W (c:PQ w W p b S G E)=>Cj W b G E 8 c.ps);generalize (Ay E 8).k=aq at*;generalize (Ay E 8).n=ar at*;generalize (Ay E 8).s=au at*;clear v F;go_enter func252,ntmps252;go_wp2_with fail;refine(y.o _ m.o).mono ?_;rintro _ w1 ⟨rfl,h,i⟩;have a:=Aa (show PQ w w1 p b S G (tl s)from m.o.call h i);clear h i;go_wp2_with fail;refine(Z.o _ a.o).mono ?_;rintro _ w2 ⟨u,rfl,C,L⟩;have d:=Aa (a.o.tr L);have N:=Aa (C.imp (R:=fun k=>w.heap.size<=k) (fun k B _=>wV a.o.kp.size B));obtain⟨U,rfl⟩:=C.ptr;have c2:=L.pp.c0;have am:=L.pp.lt;clear C L;go_wp2_with fail;refine(M.o _ d.o).mono ?_;rintro _ w3 ⟨rfl,A,x⟩;go_wp2;go_ret;rw[e.o];exact⟨_,rfl,N.o.keep d.o.ps x (fun k B _=>B),d.o.call A x⟩
 rw[v]at y e;rw[xG (by decide)]at e;have ab:=BX (nm s) [110,111,116];have O:=BX (nm s) [97,108,108];have J:=BX (nm s) [105,115];have I:=Aa (fun W (c:PQ w W p b S G s)=>Eh W b G s c.ps);by_cases q:nm s=Nb
 ·rw[xH q]at e
  have ae:=oM s _ q (by decide);have ak:=Li s ae;obtain⟨j,rfl⟩:∃j,f=j+1:=⟨f-1,by omega⟩;have Y:=Aa (fun W (c:PQ w W p b S G (nmT s))=>F j (by omega) (by omega) W (nmT s) (by omega) c.pp c.ps);rw[xM (show nm s=Az [110,111,116]from q)]at ab;generalize DZ (j+1+1) s=H at*;generalize DZ (j+1) (nmT s)=V at*;obtain⟨t,E⟩:=V;simp only[]at e Y;generalize nm s=n at*;clear v F q ae O J;go_enter func252,ntmps252;go_wp2_with fail;refine(y.o _ m.o).mono ?_;rintro _ w1 ⟨rfl,h,i⟩;have a:=Aa (show PQ w w1 p b S G s from m.o.call h i);have c1:=a.o.pp.c0;have Q:=a.o.pp.lt;clear h i;go_wp2_with fail;refine(I.o _ a.o).mono ?_;rintro _ w2 ⟨rfl,l,k2⟩;have d:=Aa (a.o.call l k2);clear l k2;go_wp2_with fail;refine(Y.o _ d.o).mono ?_;rintro _ w3 ⟨u,rfl,C,af⟩;have r:=Aa (d.o.tr af);have N:=Aa (C.imp (R:=fun k=>w.heap.size<=k) (fun k B _=>wV d.o.kp.size B));obtain⟨U,rfl⟩:=C.ptr;have ao:=r.o.kp.size;clear C af;go_wp2;go_ret;rw[e.o];refine⟨_,rfl,.not (w3.heap.size+1) ⟨#[]⟩ ⟨#[]⟩ 0 0 (.slice (some ⟨w3.heap.size,0,none⟩) 1 1) (.pointer (some ⟨U,0,none⟩)) t (Nat.le_succ_of_le ao) ?_ ⟨rfl,Or.inr ⟨w3.heap.size,1,_,rfl,wZ _,(AJ _ _ _ (by simp)).trans (wX w3 _),wQ _,by decide,rfl,rfl⟩⟩ (fun g aj=>by have:=xD (show some w3.heap.size=some g from aj);omega) (N.o.move (fun k cs T ax B _ hb=>⟨(AJ _ _ _ (by have:=Ab hb;simp;omega)).trans ((AJ _ _ _ (Ab hb)).trans hb),B⟩)),(r.o.al _).al _⟩;have:=wX (w3.alloc (.cells #[.pointer (some ⟨U,0,none⟩)] 147)) (.cells #[.string ⟨#[]⟩,.int .i64 2,.slice (some ⟨w3.heap.size,0,none⟩) 1 1,.int .i64 0,.int .i64 0,.string ⟨#[]⟩] 206);simpa using this
 rw[xG q]at e;rw[wY (show¬nm s=Az [110,111,116]from q)]at ab;clear F;by_cases z:nm s=MV
 ·rw[xH z]at e
  rw[xM (show nm s=Az [97,108,108]from z)]at O;generalize DZ (f+1) s=H at*;generalize nm s=n at*;clear v q z J;go_enter func252,ntmps252;go_wp2_with fail;refine(y.o _ m.o).mono ?_;rintro _ w1 ⟨rfl,h,i⟩;have a:=Aa (show PQ w w1 p b S G s from m.o.call h i);have c1:=a.o.pp.c0;have Q:=a.o.pp.lt;clear h i;go_wp2_with fail;refine(I.o _ a.o).mono ?_;rintro _ w2 ⟨rfl,l,k2⟩;have d:=Aa (a.o.call l k2);clear l k2;go_wp2;go_ret;rw[e.o];exact⟨_,rfl,.all w2.heap.size ⟨#[]⟩ ⟨#[]⟩ 0 0 d.o.kp.size (wX w2 _),d.o.al _⟩
 rw[xG z]at e;rw[wY (show¬nm s=Az [97,108,108]from z)]at O;by_cases D:nm s=LN
 ·rw[xH D]at e
  rw[xM (show nm s=Az [105,115]from D)]at J;have ah:=Aa (fun W (c:PQ w W p b S G (nmT s))=>NT W p b S G (nmT s) c.pp c.ps);generalize DZ (f+1) s=H at*;generalize nm (nmT s)=ap at*;generalize nm s=n at*;clear v q z D;go_enter func252,ntmps252;go_wp2_with fail;refine(y.o _ m.o).mono ?_;rintro _ w1 ⟨rfl,h,i⟩;have a:=Aa (show PQ w w1 p b S G s from m.o.call h i);have c1:=a.o.pp.c0;have Q:=a.o.pp.lt;clear h i;go_wp2_with fail;refine(I.o _ a.o).mono ?_;rintro _ w2 ⟨rfl,l,k2⟩;have d:=Aa (a.o.call l k2);clear l k2;go_wp2_with fail;refine(ah.o _ d.o).mono ?_;rintro _ w3 ⟨rfl,A,x⟩;have r:=Aa (d.o.call A x);clear A x;go_wp2;go_ret;rw[e.o];exact⟨_,rfl,.is w3.heap.size ap ⟨#[]⟩ 0 0 r.o.kp.size (wX w3 _),r.o.al _⟩
 rw[xG D]at e;rw[wY (show¬nm s=Az [105,115]from D)]at J;have M:=Aa (fun W (c:PQ w W p b S G (nmT s))=>Cj W b G (nmT s) 10 c.ps);have aa:=Aa (fun W (c:PQ w W p b S G (mustT (nmT s) (Ae (nmT s) 10)))=>sP W p b S G _ c.pp c.ps);have X:=Aa (eE (mustT (nmT s) (Ae (nmT s) 10)));generalize DZ (f+1) s=H at*;generalize (Ay (nmT s) 10).k=aq at*;generalize (Ay (nmT s) 10).n=ar at*;generalize (Ay (nmT s) 10).s=au at*;generalize Oj (mustT (nmT s) (Ae (nmT s) 10))=vt at*;rw[<-X.o]at aa;clear X;generalize mustT (nmT s) (Ae (nmT s) 10)=aC at*;have ai:=Aa (show∀k W,W.heap[k]?=some (.cells #[.string (nm s),.int .i64 5,.slice none 0 0,.int .i64 (Fy vt).1,.int .i64 (Fy vt).2.1,.string (Fy vt).2.2] 206 (0,0))->w.heap.size<=k->BG W (fun k=>w.heap.size<=k) (.pointer (some ⟨k,0,none⟩)) (.eq (nm s) vt)from fun k W h l=>.eq k _ vt l h);generalize Fy vt=aw at*;generalize nm s=n at*;clear v q z D;go_enter func252,ntmps252;go_wp2_with fail;refine(y.o _ m.o).mono ?_;rintro _ w1 ⟨rfl,h,i⟩;have a:=Aa (show PQ w w1 p b S G s from m.o.call h i);have c1:=a.o.pp.c0;have Q:=a.o.pp.lt;clear h i;go_wp2_with fail;refine(I.o _ a.o).mono ?_;rintro _ w2 ⟨rfl,l,k2⟩;have d:=Aa (a.o.call l k2);have c2:=d.o.pp.c0;have am:=d.o.pp.lt;clear l k2;go_wp2_with fail;refine(M.o _ d.o).mono ?_;rintro _ w3 ⟨rfl,A,x⟩;have r:=Aa (d.o.call A x);clear A x;go_wp2_with fail;refine(aa.o _ r.o).mono ?_;rintro _ w4 ⟨rfl,ag⟩;have ad:=Aa (r.o.tr ag);clear ag;go_wp2;go_ret;rw[e.o];exact⟨_,rfl,ai.o _ _ (wX w4 _) ad.o.kp.size,ad.o.al _⟩
theorem tG(w:World)(p b S G:Nat)(s:St)(c:PP w p b S)(a:PS w b G s):
 Calls prog 179 #[.pointer (some ⟨p,0,none⟩)] w fun e w'=>∃u,e=.returned u/\BG w' (fun k=>w.heap.size<=k) u (Of 802 s).1/\PQ w w' p b S G (Of 802 s).2:=
 YB p b S G 801 _ (Uv p b S G 801 _ (vE p b S G 801 (wQ _)) (Mq _) (wQ _)) (Pu _ _ _ (Mq _)) (wQ _) w s a.len c a
attribute [local go_sem ↓] Go.wp_at_zero Go.wp_at_succ
theorem EA{w:World}{base size n F:Nat}{e T:TypeId}{v:Value}{xs:List Value}{cs:Array Value}{c:Nat×Nat}(f:w.ownsRow base e size v n xs)(hF:w.heap[F]?=some (.cells cs T c))(d:T≠e):Option.some F≠v.ownBlock:=fun x=>by
 rcases f.2 with⟨y,_⟩|⟨g,cap,i,h,j,a,r⟩
 ·rw[y]at x;cases x
 ·rw[h]at x
  have b:=xD (show some F=some g from x);rw[<-b,hF]at a;cases a;exact d rfl
theorem PS.grown'{w w':World}{b G:Nat}{s:St}{row:Option Nat}(a:PS w b G s)(c:w.grownBy w' row)(hb:some b≠row)(d:some G≠row):PS w' b G s:=
 a.move (c.block b a.lt hb) (c.block G a.glt d) c.size
theorem PP.grown'{w w':World}{p b S:Nat}{row:Option Nat}(a:PP w p b S)(c:w.grownBy w' row)(d:some p≠row):PP w' p b S:=by
 unfold PP at*;rw[c.block p (Ab a) d];exact a
structure AZ(b S:Nat)(w w':World):Prop where
 size:w.heap.size<=w'.heap.size
 block:∀(k:Nat) (cs:Array Value) (T:TypeId) (fr:Nat×Nat),w.heap[k]?=some (.cells cs T fr)->T≠215->T≠141->T≠132->w'.heap[k]?=some (.cells cs T fr)
 os:w'.os=w.os
 tape:w'.tape=w.tape
 output:w'.output=w.output
 low:∀k,k<S->k<w.heap.size->k≠b->w'.heap[k]?=w.heap[k]?
theorem AZ.of_keep{b S:Nat}{w w':World}{cs:Array Value}{g:Nat×Nat}(a:Ag b w w')(hb:w.heap[b]?=some (.cells cs 215 g)):AZ b S w w':=
 ⟨a.size,fun k c T f d h _ _=>by rw[a.block k (Ab d) (fun e=>by subst e;rw[hb]at d;cases d;exact h rfl)];exact d,a.os,a.tape,a.output,fun k _ d hb=>a.block k d hb⟩
theorem AZ.refl(b S:Nat)(w:World):AZ b S w w:=⟨wQ _,fun _ _ _ _ a _ _ _=>a,rfl,rfl,rfl,fun _ _ _ _=>rfl⟩
theorem AZ.trans{b S:Nat}{x y z:World}(e:AZ b S x y)(k:AZ b S y z):AZ b S x z:=⟨wV e.size k.size,fun i cs T f a b c d=>k.block i cs T f (e.block i cs T f a b c d) b c d,k.os.trans e.os,k.tape.trans e.tape,k.output.trans e.output,fun i g h hb=>(k.low i g (xA h e.size) hb).trans (e.low i g h hb)⟩
theorem AZ.of_below{b S:Nat}{w w':World}(a:yG w w'):AZ b S w w':=⟨a.size,fun k _ _ _ c _ _ _=>by rw[a.block k (Ab c)];exact c,a.os,a.tape,a.output,fun k _ c _=>a.block k c⟩
theorem AZ.stay{b S:Nat}{T:TypeId}{B:Nat}{w w':World}(d:AZ b S w w')(e:T≠215)(f:T≠141)(g:T≠132):Ap T B w w':=fun k cs c _ a=>d.block k cs T c a e f g
theorem AZ.alloc{b S:Nat}{x y:World}(a:AZ b S x y)(o:Obj):AZ b S x (y.alloc o):=a.trans (AZ.of_below ((wR _ _).alloc (wQ _) _))
theorem AZ.set{b S:Nat}{x y:World}{F:Nat}{cs:Array Value}{T:TypeId}{d:Nat×Nat}(g:AZ b S x y)(hF:y.heap[F]?=some (.cells cs T d))(h:T=215\/T=141\/T=132)(q:S<=F)(i:Nat)(v:Value):AZ b S x (y.setCell ⟨F,i,none⟩ v):=
 g.trans ⟨by simp[World.setCell],fun k c j f a m n p=>by
  rw[xC _ _ _ _ (fun e=>by subst e;rw[hF]at a;cases a;rcases h with e|e|e<;>simp_all)];exact a,rfl,rfl,rfl,fun k r _ _=>xC _ _ _ _ (fun e=>by have l:k=F:=e;omega)⟩
theorem AZ.grown{b S:Nat}{x y z:World}{row:Option Nat}{base size n:Nat}{v:Value}{xs:List Value}(i:AZ b S x y)(a:y.grownBy z row)(g:y.ownsRow base 132 size v n xs)(h:row=v.ownBlock)(r:S<=base):AZ b S x z:=
 i.trans ⟨a.size,fun k c l f d m p j=>by
  rw[a.block k (Ab d) (by rw[h];exact EA g d j)];exact d,a.os,a.tape,a.output,fun k q d _=>a.block k d (fun e=>by rw[h]at e;have:=(g.lt k e.symm).1;omega)⟩
theorem AZ.drew{b S:Nat}{x y:World}(a:AZ b S x y):AZ b S x y.drew:=⟨a.size,a.block,a.os,a.tape,a.output,a.low⟩
def SC(w:World)(S:Nat)(a b c d e:Value):Prop:=w.heap[S]?=some (.cells #[a,b,c,d,e] 141 (0,0))
theorem info132:(prog.info? 132).map (fun i=>(i.zero,i.size,i.bytes))=some (some (.agg #[.string ⟨#[]⟩]),1,16):=by kernel_rfl
theorem sJ(w:World)(p b S G:Nat)(s:St)(J I H K ar:Value)(names:List yF)(x:PP w p b S)(j:PS w b G s)(E:SC w S J I H K ar)(D:w.ownsRow S 132 1 ar names.length (Bn names))(aU:b<S)(aS:G<S)(aY:names.length<=100000):
 Calls prog 178 #[.pointer (some ⟨p,0,none⟩)] w fun e w'=>∃au,e=.returned (.agg #[.string (nm s)])/\PS w' b G (nmT s)/\PP w' p b S/\SC w' S J I H K au/\w'.ownsRow S 132 1 au (names.length+1) (Bn (names++[nm s]))/\AZ b S w w':=by
 obtain⟨aH,aB,aE,aF,aG⟩:=info_parts info132;have aT:=Ab E;have W:=Aa (fun(w':World) (c:Ag b w w')=>(AZ.of_keep c j.ty.choose_spec:AZ b S w w'));have ad:=Aa (fun(w':World) (c:Ag b w w')=>j.stay (T:=132) (B:=S) c);obtain⟨d,f,rfl⟩:=An D;have ab:=Aa E;have Z:=Aa D;have z:∀k,(Value.slice d names.length f).ownBlock=some k->S<=k/\k<w.heap.size:=fun k c=>D.lt k c;have aZ:p≠S:=x.ne E (by decide);clear E D;have aX:=j.lt;have aW:=j.glt;have a0:=x.lt;have R:=Aa j;have aa:=Aa x;have U:=Aa (Ag.refl b w);have c0:=x.c0;clear j x;have L:=Aa (R.o.alloc (.cells #[.string ⟨#[]⟩] 132));have C:=Aa (aa.o.alloc (.cells #[.string ⟨#[]⟩] 132));have V:=Aa (U.o.alloc (.cells #[.string ⟨#[]⟩] 132));have X:=Aa (show(w.alloc (.cells #[.string ⟨#[]⟩] 132)).heap[w.heap.size]?=some (.cells #[.string ⟨#[]⟩] 132 (0,0))from wX _ _);clear R aa U;have c1:=C.o.c0;have am:=NT (w.alloc (.cells #[.string ⟨#[]⟩] 132)) p b S G s C.o L.o;generalize nm s=n at*;generalize nmT s=s1 at*;go_enter func178,ntmps178;go_wp2_with fail;refine am.mono ?_;clear am;rintro e w2 ⟨rfl,ak,k2⟩;have l:=Aa (C.o.keep L.o k2);have A:=Aa (V.o.trans k2);have Y:=Aa (k2.at X.o (by omega));have a5:=Ab Y.o;have M:=Aa (show PS w2 b G s1 from ak);have c2:=l.o.c0;have ba:=A.o.size;have a9:=l.o.lt;have a8:=M.o.lt;clear L C V X ak;have m:=Aa (A.o.at ab.o (by omega));have h:=Aa (CE Z.o (ad.o _ A.o));have ae:=Aa (W.o _ A.o);clear ab Z W ad k2;have av:=l.o.c1;have aw:w2.cell? ⟨S,4,none⟩=some (.slice d names.length f):=Ac m.o 4;have ax:=Ak m.o 4;have Q:=Ab m.o;have O:Option.some S≠(Value.slice d names.length f).ownBlock:=EA h.o m.o (by decide);have ap:Option.some p≠(Value.slice d names.length f).ownBlock:=EA h.o l.o (by decide);have aC:Option.some b≠(Value.slice d names.length f).ownBlock:=EA h.o M.o.ty.choose_spec (by decide);have al:=h.o;go_wp2_with fail;have aJ:w.heap.size<w2.heap.size:=by omega
 have a2:¬S=w2.heap.size:=by omega
 have a3:¬S=p:=by omega
 go_region_law (first|(refine step_append_lies _ (by rfl) _ _ _ (by rfl) S 132 aH _ 1 16 underlying139 aB aE aF aG rfl (by decide) _ _ _ (by rfl) (((al.alloc _).alloc _).drew) ⟨w2.heap.size+1,0,none⟩ 1 1 [.string n] (by rfl) (by rfl) (Cz _ _ _ _ (by simp)) (fun u aq=>by simp at aq;subst aq;rfl) (by decide) (by unfold maxLen;omega) (by omega) (by simp;omega) (w2.heap.size+2) (by simp) ?_;intro g cap w5 P a ay aV;have aO:w5.cell? ⟨S,4,none⟩=some (.slice d names.length f):=(a.cell_far ⟨S,4,none⟩ (by simp;omega) O).trans ((Jk w2 _ _).drew.cell (show S<w2.heap.size from Q)|>.trans aw);have a4:w5.cell? ⟨p,1,none⟩=some (.pointer (some ⟨S,0,none⟩)):=(a.cell_far ⟨p,1,none⟩ (by simp;omega) ap).trans ((Jk w2 _ _).drew.cell (show p<w2.heap.size by omega)|>.trans av);have aP:w5.frozen? ⟨S,4,none⟩=false:=(a.frozen_far ⟨S,4,none⟩ (by simp;omega) O).trans ((Jk w2 _ _).drew.frozen (show S<w2.heap.size from Q)|>.trans ax);have n5:w5.cell? ⟨w2.heap.size,0,none⟩=some (.string n):=(a.cell_far ⟨w2.heap.size,0,none⟩ (by simp;omega) (fun e=>by have:=(z w2.heap.size e.symm).2;omega)).trans (Ac (w:=(((w2.alloc (.cells #[.string n] 132)).alloc (.cells #[.string n] 132)).drew)) (LA _ _ _) 0)));all_goals(
  have r:=(Jk w2 (.cells #[.string n] 132 (0,0)) (.cells #[.string n] 132 (0,0))).drew;have t:w5.heap[S]?=some (.cells #[J,I,H,K,.slice d names.length f] 141 (0,0)):=(a.block S (by simp;omega) O).trans ((r.block S Q).trans m.o);have N:w5.heap[w2.heap.size]?=some (.cells #[.string n] 132 (0,0)):=(a.block _ (by simp;omega) (fun e=>by have:=(z _ e.symm).2;omega)).trans (LA _ _ _);have i:w5.heap[w.heap.size]?=some (.cells #[.string ⟨#[]⟩] 132 (0,0)):=(a.block _ (by simp;omega) (fun e=>by have:=(z _ e.symm).2;omega)).trans ((r.block _ aJ).trans Y.o);have aL:w5.cell? ⟨w2.heap.size,0,none⟩=some (.string n):=Ac N 0;have aK:w5.cell? ⟨w.heap.size,0,none⟩=some (.string ⟨#[]⟩):=Ac i 0;have aQ:=Ak i 0;have a6:=Ab i;have a7:=Ab N;have aI:S≠w.heap.size:=by omega
  have a1:S≠w2.heap.size:=by omega
  have ai:=((((M.o.below r).grown' a aC (fun e=>by have:=(z G e.symm).1;omega)).set (F:=S) (by omega) (by omega) 4 (.slice (some ⟨g,0,none⟩) (names.length+1) cap)).set (F:=w.heap.size) (by omega) (by omega) 0 (.string n));have ah:=((((l.o.below r).grown' a ap).set t (by decide) 4 (.slice (some ⟨g,0,none⟩) (names.length+1) cap)).set (SR i (show w.heap.size≠S by omega) 4 (.slice (some ⟨g,0,none⟩) (names.length+1) cap)) (by decide) 0 (.string n));have af:SC ((w5.setCell ⟨S,4,none⟩ (.slice (some ⟨g,0,none⟩) (names.length+1) cap)).setCell ⟨w.heap.size,0,none⟩ (.string n)) S J I H K (.slice (some ⟨g,0,none⟩) (names.length+1) cap):=SR (AI t 4 (.slice (some ⟨g,0,none⟩) (names.length+1) cap)) aI 0 (.string n);have aj:=((((ae.o.alloc _).alloc _).drew.grown a (((h.o.alloc _).alloc _).drew) rfl (wQ _)).set t (by decide) (wQ _) 4 (.slice (some ⟨g,0,none⟩) (names.length+1) cap)).set (SR i (show w.heap.size≠S by omega) 4 (.slice (some ⟨g,0,none⟩) (names.length+1) cap)) (by decide) (by omega) 0 (.string n);have az:g≠w.heap.size:=by
   rcases ay with e|e
   ·have:=(z g e).2;omega
   ·omega
  have aA:g≠S:=fun e=>by
   rcases P.2 with⟨y,_⟩|⟨aR,aM,aN,aD,_,ao,_⟩
   ·exact absurd y (by simp)
   ·cases aD;rw[e,t]at ao;cases ao
  have ag:=IF (IF P (w':=w5.setCell ⟨S,4,none⟩ (.slice (some ⟨g,0,none⟩) (names.length+1) cap)) (fun k c _=>xC _ _ _ _ (by cases c;exact aA))) (w':=(w5.setCell ⟨S,4,none⟩ (.slice (some ⟨g,0,none⟩) (names.length+1) cap)).setCell ⟨w.heap.size,0,none⟩ (.string n)) (fun k c _=>xC _ _ _ _ (by cases c;exact az));have q:=Aa (xZ ai (xZ ah (xZ af (xZ ag aj))));clear ai ah af ag aj P a r ae al h t N i;go_wp2_with fail;exact bodyPost_ret (v:=.agg #[.string n]) (by simp[results,results178,go_sem, *]) rfl ⟨_,rfl,q.o.1,q.o.2.1,q.o.2.2.1,by rw[Oa];exact q.o.2.2.2.1,q.o.2.2.2.2⟩)
abbrev Cx:=Bool×yF
inductive JX(w:World)(Q:Nat->Prop):Value->List Cx->Prop
 |is (k:Nat) (n:yF) (a c d e:Value):Q k->w.heap[k]?=some (.cells #[.string n,.int .i64 4,a,c,d,e] 206 (0,0))->JX w Q (.pointer (some ⟨k,0,none⟩)) [(true,n)]
 |eq (k:Nat) (n:yF) (a c d e:Value):Q k->w.heap[k]?=some (.cells #[.string n,.int .i64 5,a,c,d,e] 206 (0,0))->JX w Q (.pointer (some ⟨k,0,none⟩)) [(false,n)]
 |node (k:Nat) (c:Nat) (n:yF) (v x y z:Value) (vs:List Value) (ls:List (List Cx)):Q k->c<4->w.heap[k]?=some (.cells #[.string n,.int .i64 c,v,x,y,z] 206 (0,0))->w.ownsRow 0 147 1 v vs.length vs->(∀g,v.ownBlock=some g->Q g)->vs.length<=802->vs.length=ls.length->(∀(j:Nat) (u:Value) (l:List Cx),vs[j]?=some u->ls[j]?=some l->JX w Q u l)->JX w Q (.pointer (some ⟨k,0,none⟩)) ls.flatten
def IZ(word:yF)(part:St->List Cx×St):Nat->List (List Cx)->St->List (List Cx)×St
 |0,a,s=>(a,s)
 |f+1,a,s=>if Bu s word=true then IZ word part f (a++[(part (tl s)).1]) (part (tl s)).2 else(a,s)
def chain(word:yF)(part:St->List Cx×St)(s:St):List Cx×St:=
 ((IZ word part 801 [(part s).1] (part s).2).1.flatten,(IZ word part 801 [(part s).1] (part s).2).2)
theorem We(word:yF)(part:St->List Cx×St)(b:∀s,ln (part s).2<=ln s):∀(f:Nat) (a:List (List Cx)) (s:St),ln (IZ word part f a s).2<=ln s
 |0,_,_=>wQ _
 |f+1,a,s=>by
  rw[IZ];split
  ·exact wV (We word part b f _ _) (wV (b _) (BI s))
  ·exact wQ _
theorem Pp(word:yF)(part:St->List Cx×St)(a:∀s,ln (part s).2<=ln s)(s:St):ln (chain word part s).2<=ln s:=
 wV (We word part a _ _ _) (a s)
def Hb:Nat->St->List Cx×St
 |0=>fun s=>([],s)
 |f+1=>fun s=>
  if Ae s 7=true then((chain ⟨#[111,114]⟩ (chain ⟨#[97,110,100]⟩ (Hb f)) (tl s)).1,mustT (chain ⟨#[111,114]⟩ (chain ⟨#[97,110,100]⟩ (Hb f)) (tl s)).2 (Ae (chain ⟨#[111,114]⟩ (chain ⟨#[97,110,100]⟩ (Hb f)) (tl s)).2 8))
  else if nm s=Nb then Hb f (nmT s)
  else if nm s=MV then([],nmT s)
  else if nm s=LN then([(true,nm (nmT s))],nmT (nmT s))
  else([(false,nm s)],Jg (mustT (nmT s) (Ae (nmT s) 10)))
theorem Ss(f:Nat)(s:St):Hb (f+1) s=(if Ae s 7=true then((chain ⟨#[111,114]⟩ (chain ⟨#[97,110,100]⟩ (Hb f)) (tl s)).1,mustT (chain ⟨#[111,114]⟩ (chain ⟨#[97,110,100]⟩ (Hb f)) (tl s)).2 (Ae (chain ⟨#[111,114]⟩ (chain ⟨#[97,110,100]⟩ (Hb f)) (tl s)).2 8))
 else if nm s=Nb then Hb f (nmT s)
 else if nm s=MV then([],nmT s)
 else if nm s=LN then([(true,nm (nmT s))],nmT (nmT s))
 else([(false,nm s)],Jg (mustT (nmT s) (Ae (nmT s) 10)))):=rfl
def PU(f:Nat):St->List Cx×St:=chain ⟨#[111,114]⟩ (chain ⟨#[97,110,100]⟩ (Hb f))
theorem RZ:∀(f:Nat) (s:St),ln (Hb f s).2<=ln s
 |0,s=>wQ _
 |f+1,s=>by
  rw[Ss];split
  ·exact wV (DA _ _) (wV (Pp _ _ (Pp _ _ (RZ f)) _) (BI s))
  ·split
   ·exact wV (RZ f _) (Bg s)
   ·split
    ·exact Bg s
    ·split
     ·exact wV (Bg _) (Bg s)
     ·exact wV (Wt _) (wV (DA _ _) (Bg s))
mutual
def Dz:Br->List Cx
 | .all=>[]
 | .is n=>[(true,n)]
 | .eq n _=>[(false,n)]
 | .not t=>Dz t
 | .chain _ l=>NJ l
def NJ:List Br->List Cx
 |[]=>[]
 |t::l=>Dz t++NJ l
end
theorem RS:∀l:List Br,NJ l=(l.map Dz).flatten
 |[]=>by rw[NJ];rfl
 |t::l=>by rw[NJ,RS l];rfl
theorem BG.leaves{w:World}{Q:Nat->Prop}{v:Value}{t:Br}(i:BG w Q v t):JX w Q v (Dz t):=by
 induction i with
 |all k n z x y a b=>rw[Dz];exact .node k 3 n _ _ _ _ [] [] a (by decide) b (xF _ _ _ _) (fun g m=>by cases m) (by decide) rfl (fun j u l c _=>by simp at c)
 |is k n z x y a b=>rw[Dz];exact .is k n _ _ _ _ a b
 |eq k n o a b=>rw[Dz];exact .eq k n _ _ _ _ a b
 |not k n z x y v u t a b e f _ h=>
  rw[Dz];have:=JX.node (w:=w) (Q:=Q) k 2 n v _ _ _ [u] [Dz t] a (by decide) b e f (by simp) rfl (fun j r l c d=>by
   have p:j=0:=by have:=(wU.1 c).1;simp at this;omega
   subst p;cases c;cases d;exact h)
  simpa using this
 |chain k o n z x y v vs ts a b e f h5 h6 _ h=>
  rw[Dz,RS];exact .node k (if o=true then 0 else 1) n v _ _ _ vs (ts.map Dz) a (by split<;>decide) b e f h5 (by rw[xT];exact h6) (fun j u l c d=>by
   rw[xI]at d;obtain⟨t,q,rfl⟩:=yC.1 d;exact h j u t c q)
def MP(a:St->Br×St)(pp:St->List Cx×St):Prop:=∀s,Dz (a s).1=(pp s).1/\(a s).2=(pp s).2
theorem Ut{b:St->Br×St}{pp:St->List Cx×St}(c:MP b pp)(word:yF):∀(f:Nat) (a:List Br) (s:St),(Gh word b f a s).1.map Dz=(IZ word pp f (a.map Dz) s).1/\(Gh word b f a s).2=(IZ word pp f (a.map Dz) s).2
 |0,_,_=>⟨rfl,rfl⟩
 |f+1,a,s=>by
  rw[Gh,IZ];split
  ·have:=Ut c word f (a++[(b (tl s)).1]) (b (tl s)).2
   rw[xY,List.map_cons,List.map_nil,(c (tl s)).1,(c (tl s)).2]at this;rw[(c (tl s)).2];exact this
  ·exact⟨rfl,rfl⟩
theorem OI{b:St->Br×St}{pp:St->List Cx×St}(a:MP b pp)(o:Bool)(word:yF):MP (CY o word b) (chain word pp):=fun s=>by
 have:=Ut a word 801 [(b s).1] (b s).2;rw[List.map_cons,List.map_nil,(a s).1,(a s).2]at this;unfold CY chain;dsimp only;rw[Dz,RS,(a s).2];exact⟨by rw[this.1],this.2⟩
theorem Tg:∀f:Nat,MP (DZ f) (Hb f)
 |0=>fun s=>⟨by show Dz .all=_;rw[Dz];rfl,rfl⟩
 |f+1=>fun s=>by
  rw[Ta,Ss];have a:=OI (OI (Tg f) false Gq) true Gt (tl s);have b:=Tg f (nmT s);split
  ·exact⟨a.1,by rw[a.2];rfl⟩
  ·split
   ·dsimp only;rw[Dz];exact b
   ·split
    ·dsimp only;rw[Dz];exact⟨rfl,rfl⟩
    ·split
     ·dsimp only;rw[Dz];exact⟨rfl,rfl⟩
     ·dsimp only;rw[Dz];exact⟨rfl,rfl⟩
theorem tH(f:Nat):MP (Of f) (PU f):=OI (OI (Tg f) false Gq) true Gt
end Go.Proofs.YtogdodlibkckkaaGreatDoor
