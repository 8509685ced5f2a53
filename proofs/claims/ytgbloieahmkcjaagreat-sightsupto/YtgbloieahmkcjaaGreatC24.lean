import Derived.Test.YtgbloieahmkcjaaGreatC22
namespace Go.Proofs.YtgbloieahmkcjaaGreat
set_option maxHeartbeats 20000000
set_option maxRecDepth 100000
open Go.RowKit Tryz
def lw(w:World)(n:Nat)(v:Value)(L:List (Option Addr×Nat×Nat)):Prop:=∃a cap,v=.slice a L.length cap/\(L=[]\/∃g off,a=some ⟨g,off,none⟩/\∀i s,L[i]?=some s->w.cell? ⟨g,off+i,none⟩=some (.slice s.1 s.2.1 s.2.2)/\s.2.1<=2000000/\(s.2.1=0\/∃g' Mw,s.1=some ⟨g',Mw,none⟩/\∀k,k<s.2.1->w.cell? ⟨g',Mw+k*3,none⟩=some (.string ⟨#[]⟩)/\w.cell? ⟨g',Mw+k*3+1,none⟩=some (.string (dM (i/n)))/\∃a c,w.cell? ⟨g',Mw+k*3+2,none⟩=some (.slice a 0 c)))
theorem lw.below{w w':World}{n:Nat}{v:Value}{L:List (Option Addr×Nat×Nat)}(h:lw w n v L)(hb:Lt w w'):lw w' n v L:=by
 obtain⟨a,cap,h1,h2⟩:=h;refine⟨a,cap,h1,h2.imp (fun e=>e) ?_⟩;rintro⟨g,off,ha,hh⟩;refine⟨g,off,ha,fun i s hs=>?_⟩;obtain⟨c0,hl,hr⟩:=hh i s hs;refine⟨ao hb c0,hl,hr.imp (fun e=>e) ?_⟩;rintro⟨g',Mw,ha',hk⟩;refine⟨g',Mw,ha',fun k hkl=>?_⟩;obtain⟨k0,k1,a',c',k2⟩:=hk k hkl;exact⟨ao hb k0,ao hb k1,a',c',ao hb k2⟩
theorem lw.at{w:World}{n i cap:Nat}{a:Option Addr}{L:List (Option Addr×Nat×Nat)}{s:Option Addr×Nat×Nat}(h:lw w n (.slice a L.length cap) L)(hi:L[i]?=some s):∃g off,a=some ⟨g,off,none⟩/\w.cell? ⟨g,off+i,none⟩=some (.slice s.1 s.2.1 s.2.2)/\s.2.1<=2000000/\∀k,k<s.2.1->∃g' Mw a' c',s.1=some ⟨g',Mw,none⟩/\w.cell? ⟨g',Mw+k*3,none⟩=some (.string ⟨#[]⟩)/\w.cell? ⟨g',Mw+k*3+1,none⟩=some (.string (dM (i/n)))/\w.cell? ⟨g',Mw+k*3+2,none⟩=some (.slice a' 0 c'):=by
 obtain⟨a1,c1,e,h2⟩:=h;cases e;rcases h2 with e|⟨g,off,ha,hh⟩
 ·rw[e]at hi;simp at hi
 ·obtain⟨c0,hl,hr⟩:=hh i s hi
  refine⟨g,off,ha,c0,hl,fun k hk=>?_⟩;rcases hr with e|⟨g',Mw,ha',hk'⟩
  ·omega
  ·obtain⟨k0,k1,a',c',k2⟩:=hk' k hk
   exact⟨g',Mw,a',c',ha',k0,k1,k2⟩
theorem Bw(n:Nat)(hn:n=1\/n=4)(v:Value)(L:List (Option Addr×Nat×Nat))(w:World)(h:lw w n v L)(hl:L.length<=2000000):
 Calls prog 19 #[v,.int .i64 n] w fun e w'=>e=.returned (.bool true)/\Lt w w':=by
 have H:=aa h;obtain⟨aV,cV,rfl,_⟩:=h;rcases hn with rfl|rfl;all_goals
  go_enter func19,ntmps19;go_wp2_with fail;go_loopg [5,6,7] L.length (fun m v5 v6 v7 wr=>∃i:Nat,v5=.int .i64 i/\i<=L.length/\L.length-i<=m/\Lt w wr)
  case atStart=>exact⟨0,rfl,KU _,KK _,KL _ _⟩
  case round=>
   obtain⟨i,rfl,hil,hm,hb⟩:=hrel;by_cases hlt:i<L.length
   ·obtain⟨⟨sa,sn,sc⟩,hs⟩:∃s,L[i]?=some s:=⟨_,KM hlt⟩
    have HB:=aa hb;clear hb;have HM:=aa (fun W (hW:Lt w W)=>(H.o.below hW).at hs);simp only at HM;obtain⟨gV,oV,e,_,hsl,_⟩:=HM.o w (KL _ _);subst e;go_wp2_with fail;first
    |(rw[show((i:Int)/4)=((i/4:Nat):Int)from by omega]
      refine(ox (i/4) wr (by omega)).mono ?_)
    |refine(ox i wr (by omega)).mono ?_
    rintro _ w1 ⟨rfl,b1⟩;have HB1:=aa (bT HB.o b1);obtain⟨g2,o2,e,c0,_,_⟩:=HM.o w1 HB1.o;cases e;have hgV:gV<w1.heap.size:=KQ w1 _ c0;clear b1;go_wp2_with fail;go_loopg [7] sn (fun m v7 wr=>∃k nn:Nat,v7=.int .i64 k/\k<=sn/\sn-k<=m/\wr=w1.drewN nn)
    case atStart=>exact⟨0,0,rfl,KU _,KK _,rfl⟩
    case round=>
     obtain⟨k,nn,rfl,hkl,hm2,rfl⟩:=hrel;by_cases Ml:k<sn
     ·obtain⟨g3,o3,e,c0,_,hk⟩:=HM.o w1 HB1.o
      cases e;obtain⟨g',Mw,a',c',e,k0,k1,k2⟩:=hk k Ml;subst e;try rw[Nat.div_one]at k1
      have hg':g'<w1.heap.size:=KQ w1 _ k0;clear hk;go_wp2_with fail;go_roundg (sn-(k+1))
      case measure=>omega
      case rel=>exact⟨k+1,nn,by go_num,by omega,KK _,rfl⟩
     ·go_wp2_with fail
      go_roundg (L.length-(i+1))
      case measure=>omega
      case rel=>exact⟨i+1,by go_num,by omega,KK _,below_drewN HB1.o _⟩
   ·go_wp2_with fail
    go_ret;exact⟨rfl,hb⟩
end Go.Proofs.YtgbloieahmkcjaaGreat
