import Derived.Test.YtogdodlibkckkaaGreatDoorZ34
import Derived.Test.YtogdodlibkckkaaGreatDoorZ37
namespace Go.Proofs.YtogdodlibkckkaaGreatDoor
set_option maxHeartbeats 20000000
set_option maxRecDepth 100000
open Go.RowKit Tryz
def AU:List (List UInt8)->List UInt8
 |[]=>[]
 |[d]=>d
 |d::e::l=>d++44::AU (e::l)
def CF(p:List UInt8×List UInt8):List UInt8:=Bo p.1++58::p.2
inductive JV:List UInt8->Prop
 |null:JV FR
 |tru:JV Qq
 |fals:JV Ol
 |num (n:Int):JV (AH n)
 |str (t:List UInt8):BL t->JV (Bo t)
 |arr (ds:List (List UInt8)):(∀d∈ds,JV d)->JV (91::(AU ds++[93]))
 |obj (ps:List (List UInt8×List UInt8)):(∀p∈ps,BL p.1)->(∀p∈ps,JV p.2)->JV (123::(AU (ps.map CF)++[125]))
def JJ(l:List UInt8):Prop:=∃a,(∀d∈a,JV d)/\l=AU a
theorem jW(n:Int):AH n≠[]:=by
 unfold AH Lib.itoa;split
 ·simp
 ·rw[Lib.decDigits];split<;>simp
theorem JV.ne{d:List UInt8}(a:JV d):d≠[]:=by
 cases a with
 |num n=>exact jW n
 |str t a=>simp[Bo]
 |arr b a=>simp
 |obj c a k=>simp
 |null=>simp[FR]
 |tru=>simp[Qq]
 |fals=>simp[Ol]
theorem Pd(t:List UInt8):∀(a:List (List UInt8)),a≠[]->AU (a++[t])=AU a++44::t
 |[],b=>absurd rfl b
 |[d],_=>rfl
 |d::e::l,_=>by
  show d++44::AU ((e::l)++[t])=(d++44::AU (e::l))++44::t;rw[Pd t (e::l) (by simp)];simp
theorem kA:∀{b:List (List UInt8)},(∀d∈b,d≠[])->b≠[]->AU b≠[]
 |[],_,a=>absurd rfl a
 |[d],a,_=>a d (by simp)
 |d::e::l,a,_=>by simp[AU]
theorem tW{a:List (List UInt8)}(c:∀d∈a,d≠[])(t:List UInt8):Cf (AU a)++t=AU (a++[t]):=by
 by_cases b:a=[]
 ·subst b;rfl
 ·rw[Pd t a b]
  unfold Cf;rw[xG (kA c b)];simp
theorem JJ.sep{l t:List UInt8}(e:JJ l)(k:JV t):JJ (Cf l++t):=by
 obtain⟨c,b,rfl⟩:=e;refine⟨c++[t],fun d hd=>?_,tW (fun d hd=>(b d hd).ne) t⟩;rcases yD.1 hd with a|a
 ·exact b d a
 ·simp at a;subst a;exact k
theorem JJ.nil:JJ []:=⟨[],fun d hd=>by simp at hd,rfl⟩
def OA:List UInt8:=[109,101,115,115,97,103,101]
def QU:List UInt8:=[110,111,116,32,97,118,97,105,108,97,98,108,101]
def OB:List UInt8:=[112,97,116,104]
theorem fJ{p:List UInt8}(d:JJ p):JV (Gs++p++IX):=by
 obtain⟨b,f,rfl⟩:=d;have:=JV.obj [(OA,Bo QU),(OB,91::(AU b++[93]))] (by
  intro p a;have d:(∀c∈OA,Im c)/\∀c∈OB,Im c:=by unfold Im;decide
  simp at a;rcases a with rfl|rfl
  ·exact d.1
  ·exact d.2) (by
  intro p a;simp at a;rcases a with rfl|rfl
  ·exact JV.str _ (by unfold BL Im;decide)
  ·exact JV.arr b f)
 have e:(123::(AU ([(OA,Bo QU),(OB,91::(AU b++[93]))].map CF)++[125]))=Gs++AU b++IX:=by
  simp[AU,CF,Bo,BQ,OA,QU,OB,Gs,IX]
 rw[e]at this;exact this
theorem Aj.fail_jj{s:Aj}(b:JJ s.path)(a:JJ s.errs):JJ s.fail.errs:=by
 show JJ (Cf s.errs++Gs++s.path++IX);rw[List.append_assoc,List.append_assoc,<-List.append_assoc Gs];exact a.sep (fJ b)
theorem rZ{l:List UInt8}(a:Fx l):Bo l=34::(l++[34]):=by
 unfold Bo;have:l.flatMap BQ=l:=by
  induction l with
  |nil=>rfl
  |cons c l g=>
   obtain⟨b,h,e,f⟩:=a c (by simp);rw[List.flatMap_cons,g (fun d hd=>a d (by simp[hd]))];unfold BQ;rw[xG (by simp[e,f]),xG (by rintro rfl;exact absurd b (by decide)),xG (by rintro rfl;exact absurd b (by decide))];rfl
 rw[this]
theorem Fx.tx{l:List UInt8}(a:Fx l):BL l:=fun c b=>.inl ⟨(a c b).1,(a c b).2.1⟩
inductive RJ:RV->Prop
 |mk (k:Nat) (n:Int) (t:yF) (l:List RV):k≠5->k<=8->(k=2->BL t.data.toList)->(∀x∈l,RJ x)->RJ (.mk k n t l)
def Io(r:MR):Prop:=∀c∈r.2,RJ c.2
structure EJ(E:AM):Prop where
 row:∀t r,E.row t=some r->Io r
 objs:∀k,BL (E.obj k).name.data.toList
 names:∀x∈E.names,BL x.data.toList
 flds:∀typ fs,Dx E.objs E.ifs typ=some fs->∀f∈fs,BL f.name.data.toList
 keys:∀P∈E.parts,∀x∈P.sels,Fx x.key.data.toList
def VO(s:Aj)(x:Nat×Aj):Prop:=JJ x.2.errs/\s.data<+:x.2.data/\(x.1=0->∃d,JV d/\x.2.data=s.data++d)
theorem VO.settle{s:Aj}{x:Nat×Aj}(b:VO s x)(h:JJ x.2.path)(st:Bool):JJ (Cg s.data.length x.1 st x.2).2.errs/\∃d,JV d/\(Cg s.data.length x.1 st x.2).2.data=s.data++d:=by
 obtain⟨a,⟨r,f⟩,g⟩:=b;unfold Cg;split
 ·rename_i c
  exact⟨a,g c⟩
 ·have e:x.2.data.take s.data.length++FR=s.data++FR:=by rw[<-f];simp
  show JJ (if x.1=1/\st=true then(x.2.cutNull s.data.length).fail else x.2.cutNull s.data.length).errs/\_;split
  ·exact⟨Aj.fail_jj h a,FR,.null,e⟩
  ·exact⟨a,FR,.null,e⟩
def OJ(obj:Cd):Prop:=∀r a s,Io r->JJ s.path->JJ s.errs->VO s (obj r a s)
theorem Yv{obj:Cd}(a:OJ obj)(r:Option MR)(e:∀x,r=some x->Io x)(d:List Nat)(s:Aj)(c:JJ s.path)(b:JJ s.errs):VO s (GH obj r d s):=by
 unfold GH;cases r with
 |none=>exact⟨Aj.fail_jj c b,List.prefix_refl _,fun a=>by cases a⟩
 |some r=>exact a r d s (e r rfl) c b
theorem tU{k:Nat}{n:Int}{t:yF}(c:k≠0)(d:k≠5)(e:k≠6)(f:k≠7)(g:k≠8)(h:k<=8)(b:k=2->BL t.data.toList):JV (Kw k n t):=by
 unfold Kw;split
 ·exact .num n
 split
 ·rename_i a;exact .str _ (b a)
 split
 ·exact .tru
 split
 ·exact .fals
 ·omega
theorem aX(base:List UInt8)(a:List (List UInt8))(d:List UInt8):base++91::AU a++(if 0<a.length then [44]else [])++d=base++91::AU (a++[d]):=by
 by_cases b:a=[]
 ·subst b;simp[AU]
 ·rw[Pd d a b,xH (List.length_pos_iff.2 b)];simp
mutual
theorem Ti(E:AM){obj:Cd}(i:EJ E)(u:EK obj)(a:OJ obj):∀(c:RV) (_:RJ c) (h:Bv) (g:List Nat) (s:Aj),JJ s.path->JJ s.errs->VO s (BR E obj c h g s)
 | .mk k n t l,e,h,g,s,f,b=>by
   have m:k≠5:=by cases e;assumption
   have p:k<=8:=by cases e;assumption
   have j:k=2->BL t.data.toList:=by cases e;assumption
   have q:∀x∈l,RJ x:=by cases e;assumption
   rw[BR];split
   ·exact⟨b,List.prefix_refl _,fun a=>by cases a⟩
   split
   ·exact⟨Aj.fail_jj f b,List.prefix_refl _,fun a=>by cases a⟩
   split
   ·exact Yv a _ (fun r v=>i.row _ _ v) _ _ f b
   split
   ·exact Vy E i u a l q 0 (Oi h) g 0 (s.write [91]) s.data [] rfl (fun d hd=>by simp at hd) rfl f b
   ·exact⟨b,⟨_,rfl⟩,fun _=>⟨_,tU (by assumption) m (by assumption) (by assumption) (by assumption) p j,rfl⟩⟩
theorem Vy(E:AM){obj:Cd}(u:EJ E)(q:EK obj)(j:OJ obj):∀(l:List RV) (_:∀x∈l,RJ x) (i:Nat) (b:Bv) (f:List Nat) (h:Nat) (s:Aj) (base:List UInt8) (g:List (List UInt8)),s.data=base++91::AU g->(∀d∈g,JV d)->i=g.length->JJ s.path->JJ s.errs->
 JJ (Cp E obj l i b f h s).2.errs/\base<+:(Cp E obj l i b f h s).2.data/\((Cp E obj l i b f h s).1=0->∃d,JV d/\(Cp E obj l i b f h s).2.data=base++d)
 |[],_,i,b,f,h,s,base,g,hd,n,m,p,k=>by
  rw[Cp];have e:(s.write [93]).data=base++(91::(AU g++[93])):=by show s.data++[93]=_;rw[hd];simp
  exact⟨k,by rw[e];exact⟨_,rfl⟩,fun _=>⟨_,.arr g n,e⟩⟩
 |c::l,v,i,b,f,h,s,base,g,hd,n,m,p,k=>by
  rw[Cp];split
  ·exact⟨k,by show base<+:s.data;rw[hd];exact⟨_,rfl⟩,fun j=>by cases j⟩
  ·have z:(if 0<i then s.step.write [44]else s.step).data=base++91::AU g++(if 0<g.length then [44]else []):=by
    rw[<-m];split
    ·show s.data++[44]=_;rw[hd]
    ·show s.data=_;rw[hd];simp
   have t:(if 0<i then s.step.write [44]else s.step).path=s.path:=by split<;>rfl
   have A:(if 0<i then s.step.write [44]else s.step).errs=s.errs:=by split<;>rfl
   generalize (if 0<i then s.step.write [44]else s.step)=s1 at*;have w:JJ (s1.enter (AH i)).path:=by show JJ (Cf s1.path++AH i);rw[t];exact p.sep (.num i)
   have F:=Ti E u q j c (v c (by simp)) b f (s1.enter (AH i)) w (by show JJ s1.errs;rw[A];exact k);have y:=ME E q c b f (s1.enter (AH i));obtain⟨H,d,D,C⟩:=F.settle (by rw[y.1];exact w) (Dk b);have G:=PL.around (y.trans (PL.settle (s1.enter (AH i)).data.length (BR E obj c b f (s1.enter (AH i))).1 (Dk b) (BR E obj c b f (s1.enter (AH i))).2));have B:(s1.enter (AH i)).data=s1.data:=rfl;refine Vy E u q j l (fun x r=>v x (by simp[r])) (i+1) b f _ _ base (g++[d]) ?_ ?_ (by simp[m]) ?_ H
   ·show(Cg (s1.enter (AH i)).data.length (BR E obj c b f (s1.enter (AH i))).1 (Dk b) (BR E obj c b f (s1.enter (AH i))).2).2.data=_
    rw[C,B,z,aX]
   ·intro x r
    rcases yD.1 r with a|a
    ·exact n x a
    ·simp at a;subst a;exact D
   ·rw[G.1,t];exact p
end
def TX(w:World)(t:Nat)(s:yF)(k:Nat):Prop:=w.heap[t]?=some (.cells #[.string s,.int .i64 k,.bool true] 51 (0,0))/\s.size<1000000000000000
def TR(w:World)(t:Nat)(s:yF)(v:Value)(k:Nat)(e:Ending)(w':World):Prop:=e=.returned v/\TX w' t s k/\Ag t w w'
def Dr(s:yF)(k:Nat)(l:List UInt8):Prop:=s.data.toList.drop k=l
theorem Dr.cons{s:yF}{k:Nat}{c:UInt8}{l:List UInt8}(a:Dr s k (c::l)):∃b:k<s.size,s[k]=c/\Dr s (k+1) l:=by
 unfold Dr at*;have b:k<s.data.toList.length:=by
  rcases Nat.lt_or_ge k s.data.toList.length with q|q
  ·exact q
  ·rw[List.drop_eq_nil_of_le q]at a;cases a
 rw[xX b]at a;obtain⟨d,e⟩:=List.cons.inj a;exact⟨by simpa using b,by rw[<-d];rfl,e⟩
theorem Dr.nil{s:yF}{k:Nat}(a:Dr s k []):¬k<s.size:=by
 intro b;unfold Dr at a;rw[List.drop_eq_nil_iff]at a;have:s.data.toList.length=s.size:=by simp
 omega
theorem Dr.app{s:yF}{k:Nat}{a l:List UInt8}(b:Dr s k (a++l)):Dr s (k+a.length) l:=by
 unfold Dr at*;rw[<-List.drop_drop,b,List.drop_left]
section
variable {w:World} {t k:Nat} {s:yF} {r:List UInt8}
theorem TX.drewN{n:Nat}(a:TX w t s k):TX (w.drewN n) t s k:=a
theorem Ag.drewN{a b:World}(c:Ag t a b)(n:Nat):Ag t a (b.drewN n):=c.trans (Ag.of_below (below_drewN (wR _ _) n))
theorem TX.set(a:TX w t s k)(j:Nat):TX (w.setCell ⟨t,1,none⟩ (.int .i64 j)) t s j:=⟨AI a.1 1 _,a.2⟩
theorem TX.okd(a:TX w t s k):TX (w.setCell ⟨t,2,none⟩ (.bool true)) t s k:=⟨AI a.1 2 _,a.2⟩
theorem TX.next{a:World}(b:TX w t s k)(c:Ag t a w)(n:Nat)(j:Nat):TX ((w.drewN n).setCell ⟨t,1,none⟩ (.int .i64 j)) t s j/\Ag t a ((w.drewN n).setCell ⟨t,1,none⟩ (.int .i64 j)):=⟨TX.set (w:=w.drewN n) b j,(c.drewN n).setCell _ _⟩
theorem TX.keep(_:TX w t s k)(n:Nat):Ag t w (w.drewN n):=Ag.of_below (below_drewN (wR _ _) n)
theorem MB(c:UInt8)(d:TX w t s k)(e:Dr s k (c::r)):Calls prog 27 #[.pointer (some ⟨t,0,none⟩),.int .u8 c.toNat] w (TR w t s (.bool true) (k+1)):=by
 obtain⟨h,rfl, -⟩:=e.cons;have b:=Aa d;obtain⟨a,i⟩:=d;have c0:=Ac a;have f:=Ak a;have m:=Ab a;have g:decide ((k:Int)<(s.size:Int))=true:=by simp;omega
 have j:0<=(s[k].toNat:Int):=by omega
 have l:(s[k].toNat:Int)<=255:=by have:=s[k].toNat_lt;omega
 clear a;unfold TR;go_enter func27,ntmps27;go_wp2;go_quiet (fail);go_wp2;go_ret;exact⟨rfl,b.o.drewN.set (k+1),(b.o.keep _).setCell _ _⟩
theorem Oh(c:UInt8)(f:TX w t s k)(g:Dr s k r)(j:r.head?≠some c):Calls prog 27 #[.pointer (some ⟨t,0,none⟩),.int .u8 c.toNat] w (TR w t s (.bool false) k):=by
 have a:=Aa f;obtain⟨b,n⟩:=f;have c0:=Ac b;have l:=Ak b;have u:=Ab b;clear b;unfold TR;cases r with
 |nil=>
  have i:=g.nil;have h:decide ((k:Int)<(s.size:Int))=false:=by simp;omega
  go_enter func27,ntmps27;go_wp2;go_quiet (fail);go_wp2;go_ret;exact⟨rfl,a.o.drewN,a.o.keep _⟩
 |cons d r=>
  obtain⟨i,rfl, -⟩:=g.cons;have h:decide ((k:Int)<(s.size:Int))=true:=by simp;omega
  have p:0<=(s[k].toNat:Int):=by omega
  have q:(s[k].toNat:Int)<=255:=by have:=s[k].toNat_lt;omega
  have m:((s[k].toNat:Int)==(c.toNat:Int))=false:=by
   cases e:((s[k].toNat:Int)==(c.toNat:Int))
   ·rfl
   ·exact absurd (by rw[List.head?_cons,Fa (c:=s[k]) (d:=c) (by simpa using e)]) j
  go_enter func27,ntmps27;go_wp2;go_quiet (fail);go_wp2;go_ret;exact⟨rfl,a.o.drewN,a.o.keep _⟩
theorem Lx(m:yF)(y:m.size<=100)(f:TX w t s k)(j:Dr s k (m.data.toList++r)):Calls prog 25 #[.pointer (some ⟨t,0,none⟩),.string m] w (TR w t s (.tuple #[]) (k+m.size)):=by
 have l:=Aa f;have n:=Aa (fun(W:World) (i:Nat) (g:i<m.size) (q:TX W t s (k+i))=>MB (r:=(m.data.toList++r).drop (i+1)) m[i] q (by
  unfold Dr at*;rw[<-List.drop_drop,j];have:i<(m.data.toList++r).length:=by simp;omega
  rw[xX this,List.getElem_append_left (by simpa using g)];rfl))
 unfold TR;clear j f;go_enter func25,ntmps25;go_wp2;go_loopg [4,5] m.size (fun d v4 v5 wr=>∃i:Nat,v4=.int .i64 i/\i<=m.size/\m.size-i<=d/\TX wr t s (k+i)/\Ag t w wr)
 case atStart=>exact⟨0,rfl,wZ _,wQ _,l.o,Ag.refl _ _⟩
 case round=>
  obtain⟨i,rfl,g,hd,a,h⟩:=hrel;have c:=Aa a;have b:=Aa h;have z:=a.2;clear a h;rcases Nat.lt_or_ge i m.size with u|x
  ·have A:0<=(m[i].toNat:Int):=by omega
   have B:(m[i].toNat:Int)<=255:=by have:=m[i].toNat_lt;omega
   go_wp2_with fail;refine(n.o wr i u c.o).mono ?_;rintro _ w1 ⟨rfl,p,v⟩;go_wp2;go_roundg (m.size-(i+1))
   case measure=>omega
   case rel=>exact⟨i+1,by go_num,by omega,wQ _,p,b.o.trans v⟩
  ·have e:i=m.size:=by omega
   subst e;go_wp2;go_end0;exact⟨rfl,c.o,b.o⟩
end
end Go.Proofs.YtogdodlibkckkaaGreatDoor
