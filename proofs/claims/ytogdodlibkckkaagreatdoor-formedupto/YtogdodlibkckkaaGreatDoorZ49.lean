import Derived.Test.YtogdodlibkckkaaGreatDoorZ48
namespace Go.Proofs.YtogdodlibkckkaaGreatDoor
set_option maxHeartbeats 20000000
set_option maxRecDepth 100000
open Go.RowKit Tryz
theorem eN{c:UInt8}(h:Im c):(∃e,BQ c=[92,e]/\(e=34\/e=92\/e=110\/e=116))\/(BQ c=[c]/\32<=c.toNat/\c.toNat<=126/\c.toNat≠34/\c.toNat≠92):=by
 unfold BQ;by_cases d:c=34\/c=92
 ·rw[xH d]
  rcases d with rfl|rfl
  ·exact .inl ⟨_,rfl,.inl rfl⟩
  ·exact .inl ⟨_,rfl,.inr (.inl rfl)⟩
 rw[xG d];by_cases f:c=10
 ·rw[xH f];exact .inl ⟨_,rfl,.inr (.inr (.inl rfl))⟩
 rw[xG f];by_cases g:c=9
 ·rw[xH g];exact .inl ⟨_,rfl,.inr (.inr (.inr rfl))⟩
 rw[xG g];rcases h with⟨a,b⟩|e|e
 ·refine .inr ⟨rfl,a,b,fun e=>d (.inl (UInt8.toNat_inj.1 e)),fun e=>d (.inr (UInt8.toNat_inj.1 e))⟩
 ·exact absurd e f
 ·exact absurd e g
section
variable {w:World} {t k:Nat} {s:yF} {r:List UInt8}
theorem Zb(x:List UInt8)(Z:BL x)(M:TX w t s k)(v:Dr s k (Bo x++r)):Calls prog 28 #[.pointer (some ⟨t,0,none⟩)] w (TR w t s (.tuple #[]) (k+(Bo x).length)):=by
 have J:=Aa (Lx ⟨#[34]⟩ (by decide) M (r:=x.flatMap BQ++34::r) (by unfold Bo at v;simpa using v));have g:=Aa (show Dr s (k+1) (x.flatMap BQ++34::r)from by unfold Bo at v;simpa using v.cons.2.2);obtain⟨K,G⟩:∃K,K=k+(Bo x).length:=⟨_,rfl⟩;rw[<-G];have I:=Aa (show k+1+(x.flatMap BQ).length+1=K from by rw[G];unfold Bo;simp;omega);unfold TR;clear v G;go_enter func28,ntmps28;go_wp2_with fail;refine J.o.mono ?_;rintro _ w1 ⟨rfl,N,aa⟩;have H:=Aa N;have L:=Aa aa;clear N aa J;go_wp2;go_loopg [2] x.length (fun d v2 wr=>∃(j:Nat) (l:List UInt8),l.length<=d/\BL l/\TX wr t s j/\Dr s j (l.flatMap BQ++34::r)/\j+(l.flatMap BQ).length+1=K/\Ag t w wr)
 case atStart=>exact⟨k+1,x,wQ _,Z,H.o,g.o,I.o,L.o⟩
 case round=>
  clear g I H L M;obtain⟨j,l,V,X,R,E,F,U⟩:=hrel;have B:=Aa R;have A:=Aa U;obtain⟨C,ax⟩:=R;have c0:=Ac C;have ag:=Ak C;have aj:=Ab C;clear C U Z;cases l with
  |nil=>
   obtain⟨T,b, -⟩:=Dr.cons (show Dr s j (34::r)from E);have e:(s[j].toNat:Int)=34:=by rw[b];rfl
   have S:decide ((s.size:Int)<=(j:Int))=false:=by simp;omega
   have p:=Aa (show j+1=K from F);clear b E F;go_wp2;go_quiet (fail);obtain⟨a,f⟩:∃a:Nat,a=nq:=⟨_,rfl⟩;rw[<-f];clear f;go_wp2;go_quiet (fail);go_wp2;refine bodyPost_ret (results_none rfl _ _ _) rfl ?_;rw[<-p.o];exact⟨rfl,B.o.next A.o _ _⟩
  |cons c l=>
   have i:Dr s j (BQ c++(l.flatMap BQ++34::r)):=by simpa using E
   have W:BL l:=fun y ai=>X y (by simp[ai]);have m:j+((BQ c).length+(l.flatMap BQ).length)+1=K:=by simpa using F
   have ah:=V;rw[xU]at ah;clear E F V;rcases eN (X c (by simp))with⟨e,b,O⟩|⟨b,ap,aq,ar,au⟩
   ·rw[b]at i m
    obtain⟨T,D,u⟩:=i.cons;obtain⟨aw,P,Q⟩:=u.cons;have af:(s[j].toNat:Int)=92:=by rw[D];rfl
    have S:decide ((s.size:Int)<=(j:Int))=false:=by simp;omega
    have av:decide ((j:Int)+1<(s.size:Int))=true:=by simp;omega
    have g:=Aa Q;have p:=Aa m;have h:(s[j+1].toNat:Int)=34\/(s[j+1].toNat:Int)=92\/(s[j+1].toNat:Int)=110\/(s[j+1].toNat:Int)=116:=by
     rw[P];rcases O with rfl|rfl|rfl|rfl
     ·exact .inl rfl
     ·exact .inr (.inl rfl)
     ·exact .inr (.inr (.inl rfl))
     ·exact .inr (.inr (.inr rfl))
    clear i u Q D m b P O;go_wp2;go_quiet (fail);obtain⟨a,f⟩:∃a:Nat,a=nq:=⟨_,rfl⟩;rw[<-f];clear f;go_wp2;go_quiet (fail);obtain⟨n,Y⟩:∃n:Nat,n=nq:=⟨_,rfl⟩;rw[<-Y];clear Y;go_upto_region 8 with fail;have q:TX ((wr.drewN (a+n)).setCell ⟨t,1,none⟩ (.int .i64 ((j:Int)+1))) t s (j+1)/\Ag t w ((wr.drewN (a+n)).setCell ⟨t,1,none⟩ (.int .i64 ((j:Int)+1))):=B.o.next A.o (a+n) (j+1);generalize (wr.drewN (a+n)).setCell ⟨t,1,none⟩ (.int .i64 ((j:Int)+1))=ak at*;obtain⟨z,ab⟩:=q;have ae:=Aa z;have ad:=Aa ab;have c2:=Ac z.1;have ao:=Ak z.1;have ay:=Ab z.1;clear z ab B A c0 ag aj;rcases h with h|h|h|h;all_goals(
     go_region;all_goals(
      go_wp2;go_roundg l.length
      case measure=>omega
      case rel=>exact⟨j+2,l,wQ _,W,ae.o.okd.set (j+2),g.o,by have:=p.o;simp only[xU,List.length_nil]at this;omega,((ad.o.setCell 2 _).setCell 1 _).drew⟩))
   ·rw[b]at i m
    obtain⟨T,D,u⟩:=i.cons;subst D;have S:decide ((s.size:Int)<=(j:Int))=false:=by simp;omega
    have af:decide ((s[j].toNat:Int)<32)=false:=by simp;omega
    have h:decide ((126:Int)<(s[j].toNat:Int))=false:=by simp;omega
    have al:((s[j].toNat:Int)==34)=false:=by simp;omega
    have am:((s[j].toNat:Int)==92)=false:=by simp;omega
    have g:=Aa u;have p:=Aa m;clear i u m b;go_wp2;go_quiet (fail);obtain⟨a,f⟩:∃a:Nat,a=nq:=⟨_,rfl⟩;rw[<-f];clear f;go_wp2;go_quiet (fail);go_wp2;go_roundg l.length
    case measure=>omega
    case rel=>
     have q:=B.o.next A.o (a+nq) (j+1);exact⟨j+1,l,wQ _,W,q.1,g.o,by have:=p.o;simp only[List.length_singleton]at this;omega,q.2⟩
end
end Go.Proofs.YtogdodlibkckkaaGreatDoor
