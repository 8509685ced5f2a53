import Derived.Test.YtogdodlibkckkaaGreatDoorZ47
namespace Go.Proofs.YtogdodlibkckkaaGreatDoor
set_option maxHeartbeats 20000000
set_option maxRecDepth 100000
open Go.RowKit Tryz
theorem ACU(l:List yF)(x:yF):Af l x<0↔x∉l:=
 ⟨jI,fun a=>by unfold Af;rw[Kk l x 0 (fun y b e=>a (e▸b))];decide⟩
theorem ACx(objs:List yF):∀(ys:List AY) (b:List AE),GQ objs b ys=true↔(∀y∈ys,0<=Af objs y.1/\LZ y.1 y.2.1=true)/\(ys.map (fun y=>y.2.1)).Nodup/\∀y∈ys,y.2.1∉b.map AE.id
 |[],b=>by simp[GQ]
 |y::ys,b=>by
  rw[GQ,xQ,ACx objs ys];unfold Jy;simp only[xQ,xK,ACU,xY,List.map_cons,List.map_nil,List.nodup_cons,yE,yD,List.not_mem_nil,or_false,not_or,forall_eq_or_imp];constructor
  ·rintro⟨⟨d,f,g⟩,h,i,c⟩
   exact⟨⟨⟨d,g⟩,h⟩,⟨fun j=>by obtain⟨z,a,e⟩:=List.mem_map.1 j;exact(c z a).2 e,i⟩,f,fun z a=>(c z a).1⟩
  ·rintro⟨⟨⟨d,g⟩,h⟩,⟨j,i⟩,f,c⟩
   exact⟨⟨d,f,g⟩,h,i,fun z a=>⟨c z a,fun e=>j (List.mem_map.2 ⟨z,a,e⟩)⟩⟩
def ACt(c:Be)(ys:List AY):yF->yF->Bool:=DS c.objs (c.ifs.map At.name) (c.uns.map Aw.name) c.uns (ys.map (qz (c.objs.map Aq.name)))
theorem ACQ(c:Be)(ys:List AY):Ij c ys=true↔ys.length<=200/\(∀y∈ys,0<=Af (c.objs.map Aq.name) y.1/\LZ y.1 y.2.1=true)/\(ys.map (fun y=>y.2.1)).Nodup/\∀y∈ys,Hf (ACt c ys) c.objs y=true:=by
 unfold Ij Lt;simp only[xQ,xK,ACx,xP,List.map_nil,List.not_mem_nil,not_false_iff,implies_true,and_true];exact⟨fun a=>⟨a.1,a.2.1.1,a.2.1.2,a.2.2⟩,fun a=>⟨a.1,⟨a.2.1,a.2.2.1⟩,a.2.2.2⟩⟩
theorem ACi{α β:Type}{f:α->β}:∀{l:List α},(l.map f).Nodup->∀{a b:α},a∈l->b∈l->f a=f b->a=b
 |[],_,_,_,g,_,_=>by simp at g
 |x::l,c,a,b,d,hb,e=>by
  rw[List.map_cons,List.nodup_cons]at c;rcases yE.1 d with rfl|d<;>rcases yE.1 hb with rfl|hb;all_goals first|rfl|exact ACi c.2 d hb e|exact absurd (List.mem_map.2 ⟨_, ‹_∈l›,e⟩) c.1|exact absurd (List.mem_map.2 ⟨_, ‹_∈l›,e.symm⟩) c.1
def ADU(c:Be)(a t:yF):Bool:=match c.objs[(Af (c.objs.map Aq.name) a).toNat]? with
 |some o=>!(o.name.toList==[81,117,101,114,121])&&AW o c.uns t
 |none=>false
theorem ADV{c:Be}{ys:List AY}(p:(ys.map (fun y=>y.2.1)).Nodup)(t id:yF):ACt c ys t id=true↔¬AB (c.objs.map Aq.name) (c.ifs.map At.name) (c.uns.map Aw.name) t<=1/\∀y∈ys,y.2.1=id->ADU c y.1 t=true:=by
 unfold ACt DS;have n:(ys.map (qz (c.objs.map Aq.name))).map AE.id=ys.map (fun y=>y.2.1):=by rw[List.map_map];rfl
 rw[n];by_cases b:AB (c.objs.map Aq.name) (c.ifs.map At.name) (c.uns.map Aw.name) t<=1
 ·rw[xH b];simp[b]
 rw[xG b];by_cases a:Af (ys.map (fun y=>y.2.1)) id<0
 ·rw[xH a]
  rw[ACU]at a;exact⟨fun _=>⟨b,fun y d e=>absurd (List.mem_map.2 ⟨y,d,e⟩) a⟩,fun _=>rfl⟩
 rw[xG a];obtain⟨j,y,m,d,i,_⟩:=Cu (fun y:AY=>y.2.1) ys id a;rw[m,xS,xI,d];have k:=wT d;have l:∀z∈ys,z.2.1=id->z=y:=fun z h f=>ACi p h k (f.trans i.symm);simp only[Option.map_some];show ADU c y.1 t=true↔_;exact⟨fun g=>⟨b,fun z h f=>by rw[l z h f];exact g⟩,fun g=>g.2 y k i⟩
theorem ADG{R f:yF->yF->Bool}(d:∀c s,R c s=true->f c s=true):∀(t:Bv) (v:RV),Dh R t v=true->Dh f t v=true
 | .one c _,.mk sh n s l,q=>by
   rw[Dh]at q⊢;split
   ·rfl
   ·rename_i e
    rw[xG e]at q;split
    ·rename_i a;rw[xH a]at q;exact q
    ·rename_i a
     rw[xG a]at q;split
     ·rename_i b;rw[xH b]at q;exact d _ _ q
     ·rename_i b;rw[xG b]at q;exact q
 | .list t _,.mk sh n s l,q=>by
   rw[Dh]at q⊢;split
   ·rfl
   ·rename_i e
    rw[xG e]at q;split
    ·rename_i a
     rw[xH a,xP]at q;rw[xP];exact fun v g=>ADG d t v (q v g)
    ·rename_i a
     rw[xG a]at q;split
     ·rename_i b;rw[xH b]at q;exact d _ _ q
     ·rename_i b;rw[xG b]at q;exact q
theorem AEV{R j:yF->yF->Bool}(m:∀c s,R c s=true->j c s=true)(l:List Am){k cs:List IN}(hs:k.Sublist cs):∀{g f:List yF},(∀n∈g,n∈f)->Ks R l f cs=true->Ks j l g k=true:=by
 induction hs with
 |slnil=>intro g f _ _;rfl
 |cons a _ i=>
  intro g f h q;rw[Ks,xQ]at q;exact i (fun n d=>List.mem_append_left _ (h n d)) q.2
 |cons_cons a _ i=>
  intro g f h q;rw[Ks,xQ]at q⊢;refine⟨?_,i (fun n d=>?_) q.2⟩
  ·have b:=q.1
   unfold Kh at b⊢;split at b
   ·simp only[xQ,xK,ACU]at b⊢
    exact⟨b.1,b.2.1,fun d=>b.2.2.1 (h _ d),b.2.2.2.1,ADG m _ _ b.2.2.2.2⟩
   ·cases b
  ·rcases yD.1 d with e|e
   ·exact List.mem_append_left _ (h n e)
   ·exact List.mem_append_right _ e
theorem AEr{c:Be}{ys d:List AY}(k:Ij c ys=true)(u:d.length<=200)(a:(d.map (fun y=>y.2.1)).Nodup)(i:∀z∈d,∃y∈ys,z.1=y.1/\z.2.1=y.2.1/\z.2.2.Sublist y.2.2):Ij c d=true:=by
 rw[ACQ]at k⊢;obtain⟨_,p,r,s⟩:=k;refine⟨u,fun z g=>?_,a,fun z g=>?_⟩
 ·obtain⟨y,h,f,j,_⟩:=i z g
  rw[f,j];exact p y h
 ·obtain⟨y,h,f,j,l⟩:=i z g
  have b:=s y h;unfold Hf at b⊢;rw[f];split at b
  ·rename_i o B
   refine AEV (fun t id q=>?_) o.fields l (fun n a=>a) b;rw[ADV r]at q;rw[ADV a];refine⟨q.1,fun w A e=>?_⟩;obtain⟨v,x,f1,m,_⟩:=i w A;rw[f1];exact q.2 v x (m.symm.trans e)
  ·cases b
theorem ACb{objs:List Aq}{ys:List AY}(g:(ys.map (fun y=>y.2.1)).Nodup){y:AY}(b:y∈ys):Fl (BC objs ys) y.2.1=some (FO objs y):=by
 unfold Fl;rw[YA];have a:¬Af (ys.map (fun y=>y.2.1)) y.2.1<0:=by rw[ACU];exact fun d=>d (List.mem_map.2 ⟨y,b,rfl⟩)
 rw[xG a];obtain⟨j,z,f,c,e,_⟩:=Cu (fun y:AY=>y.2.1) ys y.2.1 a;have:z=y:=ACi g (wT c) b e;subst this;rw[f,xS];unfold BC;rw[xI,c];rfl
theorem ACT{objs:List Aq}{ys:List AY}{id:yF}(a:id∉ys.map (fun y=>y.2.1)):Fl (BC objs ys) id=none:=by
 unfold Fl;rw[YA,xH ((ACU _ _).2 a)]
structure ACK(E:AM)(r r':MR):Prop where
 k:r'.1=r.1
 c:∀d,EQ (E.obj r.1).fields d.name=some d->DW E.roles d.auth=true->DW E.roles d.hide_=true->EM r' d.name=EM r d.name
def AM.by(E:AM)(row:yF->Option MR):AM:=⟨E.objs,E.ifs,E.uns,E.names,E.roles,E.parts,row⟩
def OpS(E:AM)(a b:Option MR):Prop:=(a=none/\b=none)\/∃r c,a=some r/\b=some c/\ACK E r c
section
variable {E:AM} {row:yF->Option MR} {whole:Nat} {m:List Bool} {obj obj':Cd}
def ACJ(E:AM)(whole:Nat)(m:List Bool)(obj obj':Cd):Prop:=∀r b a s,Jw E r->MN E whole m r a->ACK E r b->obj' b a s=obj r a s
theorem ADW(e:ACJ E whole m obj obj'){a b:Option MR}(f:OpS E a b){c:List Nat}(d:∀r,a=some r->Jw E r/\MN E whole m r c)(s:Aj):GH obj' b c s=GH obj a c s:=by
 rcases f with⟨rfl,rfl⟩|⟨r,g,rfl,rfl,hs⟩
 ·rfl
 ·exact e r g c s (d r rfl).1 (d r rfl).2 hs
mutual
theorem ACw(A:∀id,OpS E (E.row id) (row id))(z:∀id r,E.row id=some r->Jw E r)(f:ACJ E whole m obj obj'):∀(c:RV) (d:Bv) (g:List Nat) (s:Aj),Fw E c d->(∀q∈g,Dl E.c E.parts whole q (BM d))->JS E.parts m g->BR (E.by row) obj' c d g s=BR E obj c d g s
 | .mk k n t l,d,g,s,w,y,x=>by
   rw[BR,BR];by_cases j:k=0
   ·rw[xH j,xH j]
   rw[xG j,xG j];by_cases u:k=8
   ·rw[xH u,xH u]
   rw[xG u,xG u];by_cases h:k=6
   ·rw[xH h,xH h]
    subst h;obtain⟨c,st,rfl,D⟩:∃c st,d=.one c st/\∀r,E.row t=some r->AW (E.obj r.1) E.uns c=true:=by
     cases w with
     |lit a b=>exact absurd rfl a
     |ref f=>exact⟨_,_,rfl,f⟩
    exact ADW f (A t) (fun r e=>⟨z t r e,⟨fun p C=>⟨c,y p C,D r e⟩,x⟩⟩) s
   rw[xG h,xG h];by_cases i:k=7
   ·rw[xH i,xH i]
    subst i;obtain⟨v,st,rfl,B⟩:∃v st,d=.list v st/\∀c∈l,Fw E c v:=by
     cases w with
     |lit a b=>exact absurd rfl b
     |list f=>exact⟨_,_,rfl,f⟩
    exact ADL A z f l 0 v g 0 _ B y x
   rw[xG i,xG i]
theorem ADL(n:∀id,OpS E (E.row id) (row id))(k:∀id r,E.row id=some r->Jw E r)(f:ACJ E whole m obj obj'):∀(l:List RV) (i:Nat) (b:Bv) (a:List Nat) (e:Nat) (s:Aj),(∀c∈l,Fw E c b)->(∀q∈a,Dl E.c E.parts whole q (BM b))->JS E.parts m a->Cp (E.by row) obj' l i b a e s=Cp E obj l i b a e s
 |[],i,b,a,e,s,_,_,_=>by rw[Cp,Cp]
 |c::l,i,b,a,e,s,g,j,h=>by
  rw[Cp,Cp];by_cases d:s.step.left<0
  ·rw[xH d,xH d]
  ·rw[xG d,xG d]
   dsimp only;rw[ACw n k f c b a _ (g c yB) j h];exact ADL n k f l _ b a _ _ (fun c p=>g c (yA _ p)) j h
end
theorem AEs(u:MM E whole m)(A:∀id,OpS E (E.row id) (row id))(w:ACJ E whole m obj obj'){r I:MR}(hs:ACK E r I)(H:Jw E r){d:Am}{f:QF}(hd:EQ (E.obj r.1).fields f.1.name=some d)(M:DW E.roles d.hide_=true)(z:∀q∈f.2,Dl E.c E.parts whole q (BM d.ty))(y:JS E.parts m f.2)(s:Aj):Er (E.by row) obj' I d f s=Er E obj r d f s:=by
 obtain⟨D,K⟩:=Rq hd;unfold Er;by_cases l:DW E.roles d.auth=false
 ·rw[xH l,xH (show DW (E.by row).roles d.auth=false from l)]
 rw[xG l,xG (show¬DW (E.by row).roles d.auth=false from l)];by_cases i:d.arg=De
 ·rw[xH i,xH i]
  refine ADW w ?_ (fun j e=>?_) s
  ·unfold Kb
   rcases A (CI f.1).2.2 with⟨h,b⟩|⟨j,g,h,b,B⟩
   ·left
    rw[h,show(E.by row).row (CI f.1).2.2=none from b];exact⟨rfl,rfl⟩
   ·rw[h,show(E.by row).row (CI f.1).2.2=some g from b]
    simp only[Option.bind_some];rw[show(E.by row).obj g.1=E.obj j.1 from by rw[B.k];rfl,show(E.by row).uns=E.uns from rfl];by_cases a:(decide ((E.obj j.1).name=bQ)||!AW (E.obj j.1) E.uns (Te d.ty))=true
    ·rw[xH a,xH a];exact .inl ⟨rfl,rfl⟩
    ·rw[xG a,xG a];exact .inr ⟨j,g,rfl,rfl,B⟩
  ·unfold Kb at e
   obtain⟨g,h,b⟩:=Option.bind_eq_some_iff.1 e;by_cases a:(decide ((E.obj g.1).name=bQ)||!AW (E.obj g.1) E.uns (Te d.ty))=true
   ·rw[xH a]at b;cases b
   ·rw[xG a]at b
    obtain rfl:=xD b;have N:AW (E.obj g.1) E.uns (Te d.ty)=true:=by
     cases x:AW (E.obj g.1) E.uns (Te d.ty)
     ·rw[x]at a;simp at a
     ·rfl
    have J:BM d.ty=Te d.ty:=by
     have G:=u.sch.idt _ (AM.obj_mem H.k) d D i;cases L:d.ty with
     |one n st=>rfl
     |list t st=>rw[L]at G;cases G
    exact⟨u.row _ _ h,⟨fun p a=>⟨Te d.ty,by rw[<-J];exact z p a,N⟩,y⟩⟩
 rw[xG i,xG i];have C:EQ (E.obj r.1).fields d.name=some d:=by rw[K];exact hd
 have x:=hs.c d C (by cases q:DW E.roles d.auth<;>simp_all) M;have F:=H.f d D C;rw[x];by_cases v:f.1.args=[]
 ·rw[xH v,xH v]
  exact ACw A u.row w _ _ _ _ F z y
 ·rw[xG v,xG v]
  exact ACw A u.row w _ _ _ _ (F.first _) z y
theorem ADo(n:MM E whole m)(u:∀id,OpS E (E.row id) (row id))(i:ACJ E whole m obj obj'){r g:MR}(hs:ACK E r g)(q:Jw E r){f:QF}(j:Qx E.c E.parts whole m (E.obj r.1) f)(s:Aj):DI (E.by row) obj' g f s=DI E obj r f s:=by
 have h:(E.by row).obj g.1=E.obj r.1:=by rw[hs.k];rfl
 unfold DI;rw[h];by_cases a:f.1.name=Gu
 ·rw[xH a,xH a]
 rw[xG a,xG a];by_cases b:f.1.name=Gv
 ·rw[xH b,xH b];rfl
 rw[xG b,xG b];by_cases e:f.1.name=FZ
 ·rw[xH e,xH e];rfl
 rw[xG e,xG e];obtain⟨d,hd,l,_,t,p⟩:=j.or a b e;dsimp only;rw[hd,Option.getD_some,AEs n u i hs q hd l t p s]
theorem ADS(c:MM E whole m)(g:∀id,OpS E (E.row id) (row id)):∀f:Nat,ACJ E whole m (AV E f) (AV (E.by row) f)
 |0=>fun _ _ _ _ _ _ _=>rfl
 |f+1=>fun r h v s e p hs=>by
  have j:(E.by row).obj h.1=E.obj r.1:=by rw[hs.k];rfl
  rw[AV,AV,j];have n:∀(l:List QF),(∀x∈l,x∈DG E.parts (AW (E.obj r.1) E.uns) v)->∀(i b:Nat) (s:Aj),Cv (E.by row) (AV (E.by row) f) h l i b s=Cv E (AV E f) r l i b s:=by
   intro l
   induction l with
   |nil=>intro _ i b s;rw[Cv,Cv]
   |cons x l u=>
    intro d i b s;rw[Cv,Cv];by_cases a:s.step.left<0
    ·rw[xH a,xH a]
    ·rw[xG a,xG a]
     dsimp only;rw[ADo c g (ADS c g f) hs e (c.fld e p (d x yB))];exact u (fun y t=>d y (yA _ t)) _ _ _
  exact n _ (fun x q=>q) 0 0 _
end
section
def ABy(roles:List yF)(a:List Am)(n:yF):Bool:=match EQ a n with
 |some f=>ACD roles f
 |none=>false
def ABk(objs:List Aq)(y:AY):Aq:=objs.getD (FO objs y).1 Ge
def ABl(objs:List Aq)(vid:yF)(roles:List yF)(y:AY):Option AY:=if Nx roles vid (FO objs y) (ABk objs y)=true then none else some (y.1,y.2.1,y.2.2.filter (fun c=>ABy roles (ABk objs y).fields c.1))
def ABh(c:Be)(roles:List yF)(vid:yF)(ys:List AY):List AY:=ys.filterMap (ABl c.objs vid roles)
theorem ADK(n:yF):∀(l:List (yF×RV)) (o:Nat),(Fm (l.map Prod.fst) n o<0/\l.find? (fun c=>decide (c.1=n))=none)\/∃(k:Nat) (a:yF×RV),Fm (l.map Prod.fst) n o=((o+k:Nat):Int)/\l[k]?=some a/\l.find? (fun c=>decide (c.1=n))=some a
 |[],o=>.inl ⟨by rw[List.map_nil,Fm];decide,rfl⟩
 |c::l,o=>by
  rw[List.map_cons,Fm,List.find?_cons];by_cases e:c.1=n
  ·rw[xH e,xM e]
   exact .inr ⟨0,c,by simp,rfl,rfl⟩
  ·rw[xG e,wY e]
   rcases ADK n l (o+1)with b|⟨k,a,d,f,g⟩
   ·exact .inl b
   ·exact .inr ⟨k+1,a,by rw[d];congr 1;omega,by simpa using f,g⟩
theorem ADC(r:MR)(n:yF):EM r n=((r.2.find? (fun c=>decide (c.1=n))).map Prod.snd).getD PA:=by
 unfold EM Af;rcases ADK n r.2 0 with⟨b,d⟩|⟨k,a,b,d,e⟩
 ·rw[xH b,d];rfl
 ·rw[b,xG (by omega),xS,Nat.zero_add,d,e];rfl
theorem ADD(k:Nat)(l:List IN)(p:yF->Bool)(n:yF)(a:p n=true):EM (k,(l.filter (fun c=>p c.1)).map (fun c=>(c.1,pv (CZ c.2)))) n=EM (k,l.map (fun c=>(c.1,pv (CZ c.2)))) n:=by
 rw[ADC,ADC];dsimp only;rw[List.find?_map,List.find?_map,List.find?_filter];congr 3;congr 1;funext c;dsimp only[Function.comp];by_cases e:c.1=n
 ·simp[e,a]
 ·simp[e]
mutual
theorem ACp{hs:yF->Bool}{e c:yF->Option (Nat×Int×yF)->Bool}:∀(t:Br),(∀n,(false,n)∈Dz t->e n=c n)->Ia hs e t=Ia hs c t
 | .all,_=>by rw[Ia,Ia]
 | .is n,_=>by rw[Ia,Ia]
 | .eq n v,a=>by rw[Ia,Ia,a n (by rw[Dz];simp)]
 | .not r,a=>by rw[Ia,Ia,ACp r (fun n b=>a n (by rw[Dz];exact b))]
 | .chain true l,a=>by rw[Ia,Ia];exact(ACn l (fun n b=>a n (by rw[Dz];exact b))).1
 | .chain false l,a=>by rw[Ia,Ia,(ACn l (fun n b=>a n (by rw[Dz];exact b))).2]
theorem ACn{hs:yF->Bool}{e a:yF->Option (Nat×Int×yF)->Bool}:∀(l:List Br),(∀n,(false,n)∈NJ l->e n=a n)->MU hs e l=MU hs a l/\Pz hs e l=Pz hs a l
 |[],_=>by rw[MU,MU,Pz,Pz];exact⟨rfl,rfl⟩
 |t::l,c=>by
  have f:=ACp (hs:=hs) t (fun n b=>c n (by rw[NJ];exact List.mem_append_left _ b));have d:=ACn (hs:=hs) l (fun n b=>c n (by rw[NJ];exact List.mem_append_right _ b));rw[MU,MU,Pz,Pz,f,d.1,d.2];exact⟨rfl,rfl⟩
end
def ABx(c:Be):Prop:=∀o∈c.objs,∀l,o.rule=some l->Dz o.tree=l
theorem GN.tree{w:World}{T:Nat}{c:Be}{ys:List AY}(b:GN w T c ys):ABx c:=by
 obtain⟨S,m,y,v,t,z,u,j,i,h,k,e,r,g,q,s,p,n⟩:=b.ex;intro o a l d;rw[<-g]at a;obtain⟨x,f,rfl⟩:=List.mem_map.1 a;have:=(e.o.ok x f).2.2.2.2;rw[d]at this;exact this.2
section
variable {c:Be} {roles:List yF} {vid:yF} {ys:List AY}
theorem ADT{y:AY}(g:0<=Af (c.objs.map Aq.name) y.1):ABk c.objs y∈c.objs/\(ABk c.objs y).name=y.1/\(FO c.objs y).1<c.objs.length:=by
 obtain⟨k,o,b,a,e,d⟩:=Cu Aq.name c.objs y.1 (by omega);have f:(FO c.objs y).1=k:=by unfold FO;dsimp only;rw[b];exact xS k
 unfold ABk;rw[f,List.getD_eq_getElem?_getD,a];exact⟨wT a,e,d⟩
theorem ADp{b:List Am}{n:yF}(a:Kj b n=true):ABy roles b n=true:=by
 unfold Kj at a;unfold ABy EQ;split at a
 ·cases a
 ·rename_i d
  rw[xG d];split at a
  ·rename_i f c
   rw[c];unfold Lc at a;simp only[xQ,xK]at a;show ACD roles f=true;unfold ACD DW;rw[a.2.2.1,a.2.2.2.1];simp
  ·cases a
theorem ADt(d:He c=true)(i:ABx c){o:Aq}(g:o∈c.objs)(k:Nat)(l:List IN):Nx roles vid (k,(l.filter (fun x=>ABy roles o.fields x.1)).map (fun x=>(x.1,pv (CZ x.2)))) o=Nx roles vid (k,l.map (fun x=>(x.1,pv (CZ x.2)))) o:=by
 unfold Nx;cases e:o.rule with
 |none=>rfl
 |some j=>
  simp only[Option.isSome_some,Bool.true_and];congr 1;refine ACp _ (fun n f=>?_);rw[i o g j e]at f;unfold He at d;simp only[xQ,xP]at d;have b:=d.2.2.1 o g;unfold Gf at b;simp only[xQ]at b;have a:=b.2.2;rw[e]at a;unfold NU at a;rw[xP]at a;have h:Kj o.fields n=true:=a _ f;funext v;unfold UQ;rw[ADD k l (ABy roles o.fields) n (ADp h)]
theorem ACA{y z:AY}(a:ABl c.objs vid roles y=some z):z=(y.1,y.2.1,y.2.2.filter (fun x=>ABy roles (ABk c.objs y).fields x.1))/\Nx roles vid (FO c.objs y) (ABk c.objs y)=false:=by
 unfold ABl at a;split at a
 ·cases a
 ·rename_i b
  exact⟨(xD a).symm,by simpa using b⟩
theorem ADY(e:He c=true)(f:ABx c){y z:AY}(b:0<=Af (c.objs.map Aq.name) y.1)(a:ABl c.objs vid roles y=some z):ABk c.objs z=ABk c.objs y/\Nx roles vid (FO c.objs z) (ABk c.objs z)=false:=by
 obtain⟨rfl,d⟩:=ACA a;refine⟨rfl,?_⟩;rw[<-d];exact ADt e f (ADT b).1 _ y.2.2
theorem AEi(f:He c=true)(g:ABx c){y z:AY}(b:0<=Af (c.objs.map Aq.name) y.1)(a:ABl c.objs vid roles y=some z):ABl c.objs vid roles z=some z:=by
 obtain⟨e,d⟩:=ADY f g b a;unfold ABl;rw[xG (by rw[d];simp),e];obtain⟨rfl,_⟩:=ACA a;simp[List.filter_filter]
theorem ACH:∀ys:List AY,((ABh c roles vid ys).map (fun y=>y.2.1)).Sublist (ys.map (fun y=>y.2.1))
 |[]=>List.Sublist.slnil
 |y::ys=>by
  unfold ABh;rw[List.filterMap_cons];split
  ·exact(ACH ys).cons _
  ·rename_i z a
   obtain⟨rfl,_⟩:=ACA a;exact(ACH ys).cons_cons _
theorem AEm(hs:Ij c ys=true):Ij c (ABh c roles vid ys)=true:=by
 have a:=(ACQ c ys).1 hs;refine AEr hs (wV (List.length_filterMap_le _ _) a.1) (a.2.2.1.sublist (ACH ys)) (fun z d=>?_);obtain⟨y,b,e⟩:=List.mem_filterMap.1 d;obtain⟨rfl,_⟩:=ACA e;exact⟨y,b,rfl,rfl,List.filter_sublist⟩
theorem AEj(f:He c=true)(g:ABx c)(hs:Ij c ys=true):ABh c roles vid (ABh c roles vid ys)=ABh c roles vid ys:=by
 have d:=(ACQ c ys).1 hs;have key:∀l:List AY,(∀z∈l,ABl c.objs vid roles z=some z)->l.filterMap (ABl c.objs vid roles)=l:=by
  intro l
  induction l with
  |nil=>intro _;rfl
  |cons z l i=>intro b;rw[List.filterMap_cons,b z yB];simp only[];rw[i (fun y a=>b y (yA _ a))]
 exact key _ (fun z h=>by
  obtain⟨y,a,e⟩:=List.mem_filterMap.1 h;exact AEi f g (d.2.1 y a).1 e)
theorem ADa{y z:AY}(a:ABl c.objs vid roles y=some z)(E:AM)(f:E.objs=c.objs)(h:E.roles=roles):ACK E (FO c.objs y) (FO c.objs z):=by
 obtain⟨rfl,_⟩:=ACA a;refine⟨rfl,fun d hd b g=>ADD _ y.2.2 (ABy roles (ABk c.objs y).fields) d.name ?_⟩;have e:EQ (ABk c.objs y).fields d.name=some d:=by
  have:E.obj (FO c.objs y).1=ABk c.objs y:=by unfold AM.obj ABk;rw[f]
  rw[<-this];exact hd
 unfold ABy;rw[e];show ACD roles d=true;unfold ACD;rw[<-h,b,g];rfl
theorem AEn(m:He c=true)(p:ABx c)(hs:Ij c ys=true)(E:AM)(j:E.objs=c.objs)(n:E.roles=roles)(id:yF):OpS E (Ej c.objs roles vid (BC c.objs ys) id) (Ej c.objs roles vid (BC c.objs (ABh c roles vid ys)) id):=by
 have d:=(ACQ c ys).1 hs;have l:((ABh c roles vid ys).map (fun y=>y.2.1)).Nodup:=d.2.2.1.sublist (ACH ys);unfold Ej;by_cases h:id∈ys.map (fun y=>y.2.1)
 ·obtain⟨y,f,rfl⟩:=List.mem_map.1 h
  rw[ACb d.2.2.1 f];simp only[Option.bind_some];cases a:ABl c.objs vid roles y with
  |none=>
   have k:Nx roles vid (FO c.objs y) (c.objs.getD (FO c.objs y).1 Ge)=true:=by
    unfold ABl at a;split at a
    ·assumption
    ·cases a
   rw[xH k,ACT (fun b=>?_)]
   ·exact .inl ⟨rfl,rfl⟩
   ·obtain⟨z,r,s⟩:=List.mem_map.1 b
    obtain⟨t,q,e⟩:=List.mem_filterMap.1 r;have g:z.2.1=t.2.1:=by obtain⟨rfl,_⟩:=ACA e;rfl
    rw[ACi d.2.2.1 q f (g.symm.trans s),a]at e;cases e
  |some z=>
   have b:z∈ABh c roles vid ys:=List.mem_filterMap.2 ⟨y,f,a⟩;have g:z.2.1=y.2.1:=by obtain⟨rfl,_⟩:=ACA a;rfl
   obtain⟨u,i⟩:=ADY m p (d.2.1 y f).1 a;rw[xG (show¬Nx roles vid (FO c.objs y) (c.objs.getD (FO c.objs y).1 Ge)=true from by rw[show Nx roles vid (FO c.objs y) (c.objs.getD (FO c.objs y).1 Ge)=false from(ACA a).2];simp),<-g,ACb l b];simp only[Option.bind_some];rw[xG (show¬Nx roles vid (FO c.objs z) (c.objs.getD (FO c.objs z).1 Ge)=true from by rw[show Nx roles vid (FO c.objs z) (c.objs.getD (FO c.objs z).1 Ge)=false from i];simp)];exact .inr ⟨_,_,rfl,rfl,ADa a E j n⟩
 ·rw[ACT h,ACT (fun b=>h ((ACH ys).subset b))]
  exact .inl ⟨rfl,rfl⟩
theorem AEf(d:He c=true){y:AY}(i:0<=Af (c.objs.map Aq.name) y.1)(b:LZ y.1 y.2.1=true)(e:y.2.1=bE):∃z,ABl c.objs vid roles y=some z:=by
 have h:y.1=Iu:=by
  unfold LZ at b;rw[e]at b;simpa using b
 unfold He at d;simp only[xQ]at d;have a:=d.2.2.2.2.2;unfold IJ at a;rw[<-h,xG (by omega)]at a;have g:(ABk c.objs y).rule=none:=by
  unfold ABk FO;rw[List.getD_eq_getElem?_getD];dsimp only;split at a
  ·rename_i o f
   rw[f];simpa using a
  ·cases a
 refine⟨_,xG ?_⟩;unfold Nx;rw[g];simp
theorem AEl(l:He c=true)(hs:Ij c ys=true)(E:AM)(j:E.objs=c.objs)(m:E.roles=roles):ACK E (Cc c.objs (BC c.objs ys)) (Cc c.objs (BC c.objs (ABh c roles vid ys))):=by
 have a:=(ACQ c ys).1 hs;have k:((ABh c roles vid ys).map (fun y=>y.2.1)).Nodup:=a.2.2.1.sublist (ACH ys);unfold Cc;by_cases d:bE∈ys.map (fun y=>y.2.1)
 ·obtain⟨y,b,f⟩:=List.mem_map.1 d
  obtain⟨z,g⟩:=AEf (roles:=roles) (vid:=vid) l (a.2.1 y b).1 (a.2.1 y b).2 f;have e:z∈ABh c roles vid ys:=List.mem_filterMap.2 ⟨y,b,g⟩;have i:z.2.1=y.2.1:=by obtain⟨rfl,_⟩:=ACA g;rfl
  have f1:=ACb (objs:=c.objs) a.2.2.1 b;have h:=ACb (objs:=c.objs) k e;rw[f]at f1;rw[i,f]at h;rw[f1,h];exact ADa g E j m
 ·rw[ACT d,ACT (fun e=>d ((ACH ys).subset e))]
  exact⟨rfl,fun _ _ _ _=>rfl⟩
end
theorem ADi{x:yF}{ys:List AY}(s:Ov (Ao (Ad x)).1)(i:Fj x=0)(r:ABx (Ao (Ad x)).1)(hs:Ij (Ao (Ad x)).1 ys=true)(role vid qt vt:yF)(b:Int):Ft x (ABh (Ao (Ad x)).1 (Ef (Ao (Ad x)).1.roles role) vid ys) role vid qt vt b=Ft x ys role vid qt vt b:=by
 have k:=Qe x i;unfold Ft MT;by_cases a:Ec (Bk (Ad qt)).2=false\/(FP (Ad vt)).2=false
 ·rw[xH a,xH a]
 rw[xG a,xG a];by_cases f:Ef (Ao (Ad x)).1.roles role=[]
 ·rw[xH f,xH f]
 rw[xG f,xG f];by_cases c:(Bk (Ad qt)).1.ops.length≠1
 ·rw[xH c,xH c]
 rw[xG c,xG c];by_cases g:Kq (Bk (Ad qt)).1=false
 ·rw[xH g,xH g]
 rw[xG g,xG g];cases n:Fi (FP (Ad vt)).1 (GZ (BY (Bk (Ad qt)).1)) []with
 |none=>rfl
 |some l=>
  unfold Ud;dsimp only;by_cases d:Hz ⟨(Ao (Ad x)).1.objs,(Ao (Ad x)).1.ifs,(Ao (Ad x)).1.uns,Ef (Ao (Ad x)).1.roles role⟩ (CS l (BY (Bk (Ad qt)).1)).parts (Ck (Bk (Ad qt)).1)=false
  ·rw[xH d,xH d]
  rw[xG d,xG d];by_cases h:b<0\/5000<b
  ·rw[xH h,xH h]
  rw[xG h,xG h];have j:=XM (vid:=vid) s i hs (roles:=Ef (Ao (Ad x)).1.roles role) (qt:=qt) (vt:=vt) (l:=l) (by simp at a;exact a.1) (by simpa using c) n (by simpa using d);obtain⟨m,p,q⟩:=j.ok;unfold NL FW;have key:=ADS (row:=Ej (Ao (Ad x)).1.objs (Ef (Ao (Ad x)).1.roles role) vid (BC (Ao (Ad x)).1.objs (ABh (Ao (Ad x)).1 (Ef (Ao (Ad x)).1.roles role) vid ys))) p (fun id=>AEn (roles:=Ef (Ao (Ad x)).1.roles role) k r hs _ rfl rfl id) 5001 _ _ [Ck (Bk (Ad qt)).1] ⟨b,[],[],[]⟩ j.ro q (AEl (roles:=Ef (Ao (Ad x)).1.roles role) (vid:=vid) k hs _ rfl rfl);have e:(DH (Ao (Ad x)).1 (BC (Ao (Ad x)).1.objs (ABh (Ao (Ad x)).1 (Ef (Ao (Ad x)).1.roles role) vid ys)) (Ef (Ao (Ad x)).1.roles role) vid (CS l (BY (Bk (Ad qt)).1)).parts)=(DH (Ao (Ad x)).1 (BC (Ao (Ad x)).1.objs ys) (Ef (Ao (Ad x)).1.roles role) vid (CS l (BY (Bk (Ad qt)).1)).parts).by (Ej (Ao (Ad x)).1.objs (Ef (Ao (Ad x)).1.roles role) vid (BC (Ao (Ad x)).1.objs (ABh (Ao (Ad x)).1 (Ef (Ao (Ad x)).1.roles role) vid ys))):=rfl;rw[e,key]
end
end Go.Proofs.YtogdodlibkckkaaGreatDoor
