/- Parts: PsZ1. -/
import Derived.Deep.MidRow
import Derived.Test.YtdabndiaflagpaaGreatDoorK33
import Derived.Test.YtdabndiaflagpaaGreatDoorK04
set_option maxRecDepth 100000
set_option maxHeartbeats 4000000
namespace Go.Proofs.YtdabndiaflagpaaGreatDoor
open Go.RowKit
attribute [local go_sem] Tame.Op Tame.upon
theorem Zg {σ:Pr Unit} {x:T} (hi:isS [40] σ=false) (hx:∀ y L,(σ.bind fun _ L=>zh 0 L)=.ok y L→x=y) :
  (σ.bind fun _ L=>jA L).unit=(σ.bind fun _ L=>zh 0 L).unit∧∀ y L,(σ.bind fun _ L=>jA L)=.ok y L→[x]=y:=by
 cases σ with
 | bad c a=>exact⟨rfl,fun y L e=>by cases e⟩
 | ok u L=>
  have hi:isP [40] L=false:=hi
  have hx:∀ y L',zh 0 L=.ok y L'→x=y:=hx
  show (jA L).unit=(zh 0 L).unit∧∀ y L',jA L=.ok y L'→[x]=y
  unfold jA
  rw[if_neg (by rw[hi];decide)]
  have e:nmP L=zh 0 L:=by
   unfold nmP zh
   by_cases h1:hdK L=1
   ·rw[if_pos h1,if_pos h1,if_neg (by omega)]
   ·rw[if_neg h1,if_neg h1]
  rw[e]
  exact⟨Pr.unit_map _ _,Pr.val_map hx fun t=>[t]⟩
theorem Yf {L:List Tk} {ns:List T} (hi:isP [40] L=true) (hx:∀ y L',jw 0 L.tail=.ok y L'→ns=y) :
  (jA L).unit=((jw 0 L.tail).unit.bind fun _ L=>ze [41] L)∧∀ y L',jA L=.ok y L'→ns=y:=by
 unfold jA
 rw[if_pos hi]
 cases h:jw 0 L.tail with
 | bad c a=>exact⟨rfl,fun y L e=>by cases e⟩
 | ok y M=>
  obtain rfl:=hx y M h
  show ((ze [41] M).bind fun _ L=>Pr.ok ns L).unit=ze [41] M∧∀ y L',((ze [41] M).bind fun _ L=>Pr.ok ns L)=.ok y L'→ns=y
  cases ze [41] M with
  | bad c a=>exact⟨rfl,fun y L e=>by cases e⟩
  | ok u K=>exact⟨rfl,fun y L e=>by injection e⟩
def vE (σ2:Pr Unit):Pr Unit:=σ2.bind fun _ L0=>(zn (jn L0) L0 0).bind fun y L=>if 200<y.depth then .bad 5 (hdF L0) else .ok () L
theorem eqn_eq {σ:Pr Unit} {ns:List T} {x:X} (hn:∀ y L,(σ.bind fun _ L=>jA L)=.ok y L→ns=y)
  (hx:∀ y L,(((σ.bind fun _ L=>jA L).unit.bind fun _ L=>ze [61] L).bind fun _ L=>zn (jn L) L 0)=.ok y L→x=y) :
  (σ.bind fun _ L=>eqnP L).unit=(vE ((σ.bind fun _ L=>jA L).unit.bind fun _ L=>ze [61] L)).bind (fun _ L=>ze [59] L)∧∀ v L,(σ.bind fun _ L=>eqnP L)=.ok v L→(⟨ns,x⟩:Q)=v:=by
 have e:(σ.bind fun _ L=>eqnP L)=(σ.bind fun _ L=>jA L).bind fun ts L=>(ze [61] L).bind fun _ L0=>(zn (jn L0) L0 0).bind fun x L=>if 200<x.depth then .bad 5 (hdF L0) else (ze [59] L).bind fun _ L=>.ok ⟨ts,x⟩ L:=by
  rw[Pr.bind_assoc];rfl
 rw[e]
 generalize (σ.bind fun _ L=>jA L)=rl at hn hx
 cases rl with
 | bad c a=>exact⟨rfl,fun v L e=>by cases e⟩
 | ok ts L=>
  obtain rfl:=hn ts L rfl
  have hx:∀ y L',((ze [61] L).bind fun _ L=>zn (jn L) L 0)=.ok y L'→x=y:=hx
  show (((ze [61] L).bind fun _ L0=>(zn (jn L0) L0 0).bind fun x L=>if 200<x.depth then .bad 5 (hdF L0) else (ze [59] L).bind fun _ L=>.ok (⟨ns,x⟩:Q) L)).unit=(vE (ze [61] L)).bind (fun _ L=>ze [59] L)∧∀ v L',((ze [61] L).bind fun _ L0=>(zn (jn L0) L0 0).bind fun x L=>if 200<x.depth then .bad 5 (hdF L0) else (ze [59] L).bind fun _ L=>.ok (⟨ns,x⟩:Q) L)=.ok v L'→(⟨ns,x⟩:Q)=v
  cases hm:ze [61] L with
  | bad c a=>exact⟨rfl,fun v L e=>by cases e⟩
  | ok u L0=>
   rw[hm] at hx
   have hx:∀ y L',zn (jn L0) L0 0=.ok y L'→x=y:=hx
   unfold vE
   show (((zn (jn L0) L0 0).bind fun x L=>if 200<x.depth then .bad 5 (hdF L0) else (ze [59] L).bind fun _ L=>.ok (⟨ns,x⟩:Q) L)).unit=((zn (jn L0) L0 0).bind fun y L=>if 200<y.depth then .bad 5 (hdF L0) else .ok () L).bind (fun _ L=>ze [59] L)∧∀ v L',((zn (jn L0) L0 0).bind fun x L=>if 200<x.depth then .bad 5 (hdF L0) else (ze [59] L).bind fun _ L=>.ok (⟨ns,x⟩:Q) L)=.ok v L'→(⟨ns,x⟩:Q)=v
   cases hr:zn (jn L0) L0 0 with
   | bad c a=>exact⟨rfl,fun v L e=>by cases e⟩
   | ok y M=>
    obtain rfl:=hx y M hr
    show (if 200<x.depth then .bad 5 (hdF L0) else (ze [59] M).bind fun _ L=>.ok (⟨ns,x⟩:Q) L:Pr Q).unit=(if 200<x.depth then .bad 5 (hdF L0) else .ok () M:Pr Unit).bind (fun _ L=>ze [59] L)∧∀ v L',(if 200<x.depth then .bad 5 (hdF L0) else (ze [59] M).bind fun _ L=>.ok (⟨ns,x⟩:Q) L:Pr Q)=.ok v L'→(⟨ns,x⟩:Q)=v
    by_cases hd:200<x.depth
    ·rw[if_pos hd,if_pos hd];exact⟨rfl,fun v L e=>by cases e⟩
    ·rw[if_neg hd,if_neg hd]
     show ((ze [59] M).bind fun _ L=>.ok (⟨ns,x⟩:Q) L).unit=ze [59] M∧∀ v L',((ze [59] M).bind fun _ L=>.ok (⟨ns,x⟩:Q) L)=.ok v L'→(⟨ns,x⟩:Q)=v
     cases ze [59] M with
     | bad c a=>exact⟨rfl,fun v L e=>by cases e⟩
     | ok u K=>exact⟨rfl,fun v L e=>by injection e⟩
def QVr (lo:Nat) (q:Q) (v:Value) (w':World):Prop:=∃ A1 c1 A2 c2,v=.agg #[.slice A1 q.lhs.length c1,.int .i64 q.rhs.k,.int .i64 q.rhs.o,.int .i64 q.rhs.n,.string ⟨q.rhs.s.toArray⟩,.slice A2 q.rhs.ks.length c2]∧TS w' (Bt lo w'.heap.size) A1 q.lhs∧KS w' (Bt lo w'.heap.size) A2 q.rhs.ks∧q.lhs.length≤c1
theorem vf:(Tryz.prog.info? 80).map (·.size)=some 6:=by kernel_rfl
structure LAt (g c:Nat) (ts:List Tk) (b:Nat) (v0:World) (p q:Nat) (σ:Pr Unit) (ns:List T) (A:Option Addr) (cv:Nat) (w:World):Prop where
 ra:RA g c ts b v0 0 σ w
 box:Row w p 80 #[.slice A ns.length cv,.int .i64 0,.int .i64 0,.int .i64 0,.string ⟨#[]⟩,.slice none 0 0]
 res:Row w q 80 #[.slice none 0 0,.int .i64 0,.int .i64 0,.int .i64 0,.string ⟨#[]⟩,.slice none 0 0]
 names:TS w (Bt (p+1) w.heap.size) A ns
 cap:ns.length≤cv
theorem Bt.step {lo:Nat} {w w':World} {r:Option Nat} (g:w.grownBy w' r) (hr:∀ q,r=some q→q<lo) (m:Nat) (hm:Bt lo w.heap.size m):Bt lo w'.heap.size m∧w'.heap[m]? = w.heap[m]?:=
 ⟨⟨hm.1,Nat.lt_of_lt_of_le hm.2 g.size⟩,g.block m hm.2 (fun e=>by have:=hr m e.symm;have:=hm.1;omega)⟩
theorem LAt.grow {g c:Nat} {ts:List Tk} {b:Nat} {v0:World} {p q:Nat} {σ σ':Pr Unit} {ns:List T} {A:Option Addr} {cv:Nat} {w w':World} (h:LAt g c ts b v0 p q σ ns A cv w) (hs:Rs g c ts w' b 0 σ') (gr:w.grownBy w' (some b)) (hbq:b≠q) (hbp:b<p):LAt g c ts b v0 p q σ' ns A cv w':=
 ⟨h.ra.step hs gr,h.box.grown gr (fun e=>by injection e with e;omega),h.res.grown gr (fun e=>by injection e with e;omega),h.names.move (Bt.step gr (fun k e=>by injection e with e;omega)),h.cap⟩
theorem Rs.len {g c:Nat} {ts:List Tk} {w:World} {b o:Nat} {L:List Tk} (h:Rs g c ts w b o (.ok () L)):WFt L∧L.length≤1000000:=by
 obtain⟨_,_,_,_,_,⟨_,_,_,j,_,hL⟩⟩:=h.row_
 exact⟨h.good_,by have:=h.few_;rw[hL,List.length_drop];omega⟩
theorem row_mid {w:World} {p:Nat} {t:TypeId} {a0 a1 a2 a3 a4 a5:Value} (hr:Row w p t #[a0,a1,a2,a3,a4,a5]) (x:X) (A:Option Addr) (c:Nat) :
  Row (w.setCells p 1 (x5 x A c).toList) p t #[a0,.int .i64 x.k,.int .i64 x.o,.int .i64 x.n,.string ⟨x.s.toArray⟩,.slice A x.ks.length c]∧w.grownBy (w.setCells p 1 (x5 x A c).toList) (some p):=by
 constructor
 ·simpa [x5,World.setCells] using ((((hr.set 1 (.int .i64 x.k)).set 2 (.int .i64 x.o)).set 3 (.int .i64 x.n)).set 4 (.string ⟨x.s.toArray⟩)).set 5 (.slice A x.ks.length c)
 ·simpa [x5,World.setCells] using zf (zf (zf (zf (zf (zd w p) 1 (.int .i64 x.k)) 2 (.int .i64 x.o)) 3 (.int .i64 x.n)) 4 (.string ⟨x.s.toArray⟩)) 5 (.slice A x.ks.length c)
theorem JK {w:World} {p:Nat} {t:TypeId} {a0 a1 a2 a3 a4 a5:Value} (hr:Row w p t #[a0,a1,a2,a3,a4,a5]):w.there p 1 5:=fun j hj=>⟨by
 rw[hr.cell]
 obtain rfl | rfl | rfl | rfl | rfl:j=0∨j=1∨j=2∨j=3∨j=4:=by omega
 all_goals rfl,hr.free _⟩
theorem Zn {σ2:Pr Unit} {k:Int} {a:Nat} (h:(σ2.bind fun _ L=>zn (jn L) L 0)=.bad k a):vE σ2=.bad k a:=by
 cases σ2 with
 | bad c p=>
  have h:(Pr.bad c p:Pr X)=.bad k a:=h
  injection h with h1 h2
  subst h1 h2
  rfl
 | ok u L0=>
  have h:zn (jn L0) L0 0=.bad k a:=h
  show (zn (jn L0) L0 0).bind _=_
  rw[h];rfl
theorem Yy {σ2:Pr Unit} {x:X} {L3:List Tk} (h:(σ2.bind fun _ L=>zn (jn L) L 0)=.ok x L3):∃ L0,σ2=.ok () L0∧vE σ2=(if 200<x.depth then .bad 5 (hdF L0) else .ok () L3)∧zn (jn L0) L0 0=.ok x L3:=by
 cases σ2 with
 | bad c p=>cases h
 | ok u L0=>
  have h:zn (jn L0) L0 0=.ok x L3:=h
  refine⟨L0,rfl,?_,h⟩
  show (zn (jn L0) L0 0).bind _=_
  rw[h];rfl
theorem Jd {g c:Nat} {ts:List Tk} {b q:Nat} {w wx wk:World} {r:Pr Q} {x:Q} {A1 A2:Option Addr} {c1 c2:Nat} {old:Array Value} (hq:q=w.heap.size) (hbq:b<q) (hV:Below w.heap.size w wx) (hG:wx.grownBy wk (some b)) (hrow:Row wk q 80 old) (h1:TS wk (Bt (q+1) wk.heap.size) A1 x.lhs) (h2:KS wk (Bt (q+1) wk.heap.size) A2 x.rhs.ks) (hc:x.lhs.length≤c1) (hs:Rs g c ts wk b 0 r.unit) (hval:∀ y L,r=.ok y L→x=y) :
  Row (wk.setRow q (q6 x A1 c1 A2 c2)) q 80 (q6 x A1 c1 A2 c2)∧RRes g c ts b 0 w (QVr w.heap.size) r (.returned (.agg (q6 x A1 c1 A2 c2))) (wk.setRow q (q6 x A1 c1 A2 c2)):=by
 have hw:=hV.size
 have hz:=hG.size
 have hqk:=hrow.lt
 have hm:∀ m,Bt (q+1) wk.heap.size m→Bt w.heap.size (wk.setRow q (q6 x A1 c1 A2 c2)).heap.size m∧(wk.setRow q (q6 x A1 c1 A2 c2)).heap[m]? = wk.heap[m]?:=fun m hm=>⟨⟨by have:=hm.1;omega,by have:=hm.2;simpa using this⟩,(zj hrow).block m hm.2 (fun e=>by injection e with e;have:=hm.1;omega)⟩
 refine⟨hrow.setRow _,x,_,rfl,⟨A1,c1,A2,c2,rfl,h1.move hm,h2.move hm,hc⟩,?_,hs.grown (zj hrow) (fun k e=>by injection e with e;omega),hval⟩
 exact jb (za (zb hV b) hG) (zj hrow) (fun k e=>by injection e with e;omega)
theorem JU (g c:Nat) (ts:List Tk) (b:Nat) (σ:Pr Unit) (w:World) (h:Rs g c ts w b 0 σ) :
  Calls Tryz.prog 87 #[.pointer (some ⟨b,0,none⟩)] w (RRes g c ts b 0 w (QVr w.heap.size) (σ.bind fun _ L=>eqnP L)):=by
 obtain⟨R,hR⟩:∃ R,R=σ.bind fun _ L=>eqnP L:=⟨_,rfl⟩
 obtain⟨rl,hrl⟩:∃ rl,rl=σ.bind fun _ L=>jA L:=⟨_,rfl⟩
 obtain⟨σ2,hσ2⟩:∃ σ2:Pr Unit,σ2=rl.unit.bind fun _ L=>ze [61] L:=⟨_,rfl⟩
 obtain⟨rx,hrx⟩:∃ rx,rx=σ2.bind fun _ L=>zn (jn L) L 0:=⟨_,rfl⟩
 have HRR:Hid (∀ ns x,(∀ y L,rl=.ok y L→ns=y)→(∀ y L,rx=.ok y L→x=y)→R.unit=(vE σ2).bind (fun _ L=>ze [59] L)∧∀ v L,R=.ok v L→(⟨ns,x⟩:Q)=v):=YV fun ns x hn hx=>by
  rw[hR,hσ2,hrl]
  exact eqn_eq (by rw[← hrl];exact hn) (by rw[← hrl,← hσ2,← hrx];exact hx)
 rw[← hR]
 have hlt:=h.lt
 have hfew:=h.few_
 obtain⟨v0,hv0⟩:∃ v,v=(w.alloc (.cells #[.slice none 0 0,.int .i64 0,.int .i64 0,.int .i64 0,.string ⟨#[]⟩,.slice none 0 0] 80)):=⟨_,rfl⟩
 have hv:Below w.heap.size w v0:=by rw[hv0];exact(Below.refl _ _).alloc (Nat.le_refl _) _
 have HV:=YV hv
 have hz0:v0.heap.size=w.heap.size+1:=by rw[hv0];simp
 have HZ0:=YV hz0
 have HR:Hid (Row v0 w.heap.size 80 #[.slice none 0 0,.int .i64 0,.int .i64 0,.int .i64 0,.string ⟨#[]⟩,.slice none 0 0]):=YV (by rw[hv0];exact Row.made _ _ _)
 have HS0:Hid (Rs g c ts v0 b 0 σ):=YV (h.later hv)
 obtain⟨q,hq⟩:∃ q,q=w.heap.size:=⟨_,rfl⟩
 have HQ:=YV hq
 rw[← hq] at HR hz0 hlt
 have hqb:q≠b:=by omega
 have hbv:b<v0.heap.size:=by omega
 obtain⟨v1,hv1⟩:∃ v,v=v0.alloc (.cells #[.slice none 0 0,.int .i64 0,.int .i64 0,.int .i64 0,.string ⟨#[]⟩,.slice none 0 0] 80):=⟨_,rfl⟩
 have hb1:Below v0.heap.size v0 v1:=by rw[hv1];exact(Below.refl _ _).alloc (Nat.le_refl _) _
 have HRA1:Hid (RA g c ts b v0 0 σ v1):=YV ⟨HS0.out.later hb1,zb hb1 b⟩
 have HP1:Hid (Row v1 v0.heap.size 80 #[.slice none 0 0,.int .i64 0,.int .i64 0,.int .i64 0,.string ⟨#[]⟩,.slice none 0 0]):=YV (by rw[hv1];exact Row.made _ _ _)
 have HR1:Hid (Row v1 q 80 #[.slice none 0 0,.int .i64 0,.int .i64 0,.int .i64 0,.string ⟨#[]⟩,.slice none 0 0]):=YV (HR.out.below hb1 HR.out.lt)
 obtain⟨p,hp⟩:∃ p,p=v0.heap.size:=⟨_,rfl⟩
 have hvp:v0.heap.size≤p:=by omega
 have hqp:q<p:=by omega
 have hbp:b<p:=by omega
 have HPV:=YV hp
 rw[← hp] at HP1
 obtain⟨bl,hbl⟩:∃ bl,bl=isS [40] σ:=⟨_,rfl⟩
 have HIS:Hid (∀ w1,Rs g c ts w1 b 0 σ→Calls Tryz.prog 44 #[.pointer (some ⟨b,0,none⟩),.string ⟨#[40]⟩] w1 fun e w'=>e=.returned (.bool bl)∧Below w1.heap.size w1 w'):=YV fun w1 h1=>by rw[hbl];exact rIs g c ts b 0 [40] σ w1 h1 (by decide)
 have HBL:=YV hbl
 have HRL:=YV hrl
 have HS2D:=YV hσ2
 have HRXD:=YV hrx
 have hbq2:b≠q:=by omega
 clear h hv hz0 hb1 hR hrl hσ2 hrx hbl
 go_enter Tryz.func87,Tryz.ntmps87
 go_upto_region 1 with fail
 rw[← hv0,← hq]
 clear hv0 hq
 go_upto_region 2 with fail
 rw[← hv1,← hp]
 clear hv1 hp
 go_upto_if 6 with (go_at_call 44;refine(HIS.out _ HRA1.out.1).mono ?_;rintro e w2 ⟨rfl,hb⟩;have HRA2:=YV (HRA1.out.later hb);have HP2:=YV (HP1.out.below hb HP1.out.lt);have HR2:=YV (HR1.out.below hb HR1.out.lt);clear hb HIS)
 go_cut [3] from 6 (fun v w'=>v=.pointer (some ⟨p,0,none⟩)∧∃ ns A cv,(∀ y L,rl=.ok y L→ns=y)∧LAt g c ts b v0 p q rl.unit ns A cv w')
 case first=>
  cases bl with
  | false=>
   have HNA:Hid (∀ w1,Rs g c ts w1 b 0 σ→_):=YV fun w1 h1=>u7 g c ts b 0 0 σ w1 h1 (by omega)
   have e0:=HP2.out.cell 0
   have g0:=HP2.out.free 0
   have ez:=HP2.out.lt
   simp at e0
   clear e0 g0 ez
   go_wp2_with (go_at_call 84;refine(HNA.out _ HRA2.out.1).mono ?_;rintro e w3 ⟨x,v,rfl,hv,g1,g2,g3⟩;obtain rfl:v=.string ⟨x.toArray⟩:=hv;have HSN:=YV g2;have HGN:=YV g1;have hp3:=(HP2.out.grown g1 (fun e=>by injection e with e;omega)).alloc (.cells #[.string ⟨x.toArray⟩] 9);have HP3:=YV hp3;have HR3:=YV ((HR2.out.grown g1 (fun e=>by injection e with e;omega)).alloc (.cells #[.string ⟨x.toArray⟩] 9));have HX3:=YV g3;have e0:=hp3.cell 0;have g0:=hp3.free 0;have ez:=hp3.lt;simp at e0;clear g1 g2 g3 hp3 HNA)
   have hl:=Zg HBL.out.symm HX3.out
   rw[← HRL.out] at hl
   go_meet
   case rel=>
    have hgs:(w3.alloc (.cells #[.string ⟨x.toArray⟩] 9)).grownBy ((w3.alloc (.cells #[.string ⟨x.toArray⟩] 9)).setCell ⟨p,0,none⟩ (.slice (some ⟨w3.heap.size,0,none⟩) 1 1)) (some p):=zf (zd _ p) 0 _
    have hza:=HP2.out.lt
    have hzb:=HGN.out.size
    refine⟨rfl,[x],_,1,hl.2,?_,by simpa using HP3.out.set 0 (.slice (some ⟨w3.heap.size,0,none⟩) 1 1),HR3.out.grown hgs (fun e=>by injection e with e;omega),?_,Nat.le_refl _⟩
    ·rw[hl.1]
     exact((HRA2.out.step HSN.out HGN.out).later ((Below.refl _ _).alloc (Nat.le_refl _) _)).far hgs (fun k e=>by injection e with e;omega) hbv
    ·refine .inr ⟨w3.heap.size,0,rfl,fun i y hi=>?_⟩
     match i,hi with
     | 0,hi=>
      obtain rfl:x=y:=by simpa using hi
      exact⟨⟨by omega,by simp⟩,(World.cell?_of_block (hgs.block w3.heap.size (by simp) (fun e=>by injection e with e;omega))).trans ((Row.made w3 _ _).cell 0)⟩
  | true=>
   cases σ with
   | bad k a=>exact absurd HBL.out (by simp[isS])
   | ok u L=>
    have hpp:isP [40] L=true:=HBL.out.symm
    have hwf:WFt L:=HRA2.out.1.good_
    have ht:=zI hwf hpp (by decide)
    have HWT:Hid (∀ M,(.ok () L:Pr Unit)=.ok () M→WFt M.tail):=YV fun M e=>by injection e with _ e;rw[← e];exact ht.1
    obtain⟨RN,hRN⟩:∃ RN,RN=jw 0 L.tail:=⟨_,rfl⟩
    have HLR:Hid (∀ ns,(∀ y L',RN=.ok y L'→ns=y)→rl.unit=(RN.unit.bind fun _ L=>ze [41] L)∧∀ y L',rl=.ok y L'→ns=y):=YV fun ns hn=>by
     rw[HRL.out,hRN]
     exact Yf hpp (by rw[← hRN];exact hn)
    have HFS:Hid (∀ x,(∀ y L',zh 0 L.tail=.ok y L'→x=y)→∃ f,vF RN 0 f [x] (zh 0 L.tail).unit):=YV fun x hx=>by
     rw[hRN];exact vF.first (n:=0) (σ:=.ok () L.tail) (by omega) hx
    have HN1:Hid (∀ w1,Rs g c ts w1 b 0 (.ok () L.tail)→Calls Tryz.prog 84 #[.pointer (some ⟨b,0,none⟩),.int .i64 0] w1 (RRes g c ts b 0 w1 (fun (x:T) v _=>v=.string ⟨x.toArray⟩) (zh 0 L.tail))):=YV fun w1 h1=>u7 g c ts b 0 0 (.ok () L.tail) w1 h1 (by omega)
    have HS2:=YV HRA2.out.1
    have HG2:=YV HRA2.out.2
    obtain⟨i0,hi0,hz00,hz01,hz02⟩:=info_parts xK
    have HI0:=YV hi0
    have HI1:=YV hz00
    have HI2:=YV hz01
    have HI3:=YV hz02
    clear hi0 hz00 hz01 hz02 hpp hwf ht hRN HRA1 HP1 HR1
    obtain⟨i2,op2,k2,a2,hr2,ha2⟩:=HS2.out.row_
    have HRW2:=YV hr2
    have HA2:=YV ha2
    have c1:=hr2.cell 1
    have f1:=hr2.free 1
    simp[zg] at c1
    clear hr2 ha2
    go_upto_region 4 with fail
    have HS3:Hid (Rs g c ts (w2.setCell ⟨b,1,none⟩ (.int .i64 (wrap64 (i2+1)))) b 0 (.ok () L.tail)):=YV (HS2.out.inc HRW2.out HA2.out HWT.out)
    have hgs:w2.grownBy (w2.setCell ⟨b,1,none⟩ (.int .i64 (wrap64 (i2+1)))) (some b):=zf (zd w2 b) 1 _
    have HG3:=YV (za HG2.out hgs)
    have HP3:=YV (HP2.out.grown hgs (fun e=>by injection e with e;omega))
    have HR3:=YV (HR2.out.grown hgs (fun e=>by injection e with e;omega))
    clear hgs c1 f1 HRW2 HA2
    generalize w2.setCell ⟨b,1,none⟩ (.int .i64 (wrap64 (i2+1)))=v3 at HS3 HG3 HP3 HR3 ⊢
    obtain⟨B2,hB2⟩:∃ B2,B2=v3.heap.size:=⟨_,rfl⟩
    have hpB:p<B2:=by rw[hB2];exact HP3.out.lt
    have hBx:B2≤v3.heap.size:=by omega
    clear hB2
    obtain⟨acc0,hacc0⟩:∃ l:List T,l=[]:=⟨_,rfl⟩
    have HPT:Hid (Row v3 p 80 #[.slice none acc0.length 0,.int .i64 0,.int .i64 0,.int .i64 0,.string ⟨#[]⟩,.slice none 0 0]):=YV (by rw[hacc0];exact HP3.out)
    have HOT:Hid (OwnW RS 9 1 B2 acc0 (.slice none acc0.length 0) v3):=YV (by rw[hacc0];exact OwnW.nil)
    have HKT:Hid (Kp2 B2 b p v3 v3):=YV (Kp2.refl _ _ _ _)
    have hal0:acc0.length≤1000:=by rw[hacc0];simp
    have HAC:=YV hacc0
    have HRA:Hid (RA g c ts b v0 0 (.ok () L.tail) v3):=YV ⟨HS3.out,HG3.out⟩
    have HV5:Hid (∀ q,(Value.slice none acc0.length 0).ownBlock=some q→B2≤q∧q<v3.heap.size):=YV (HOT.out.lt)
    clear hacc0
    refine Tame.wp_region_tamg (L:=Tame.Later) (M:=ME b p (Value.slice none acc0.length 0)) (gs:=jr g c ts b 0 p B2 (.ok () L.tail) v0 v3 80 #[.slice none acc0.length 0,.int .i64 0,.int .i64 0,.int .i64 0,.string ⟨#[]⟩,.slice none 0 0] RS 9 1 acc0 (Value.slice none acc0.length 0)) [3,5,7] (by kernel_rfl) (by kernel_rfl) Tame.Later.refl (fun _ w=>World.grownBy.refl w _) (jk jE HRA.out HPT.out HOT.out HKT.out hbv hvp hpB hBx) ?_
    repeat
     ((first
      |(refine Tame.walk3_known (o:=⟨some 16,_,_,_,_,_⟩) (by kernel_rfl) (fun _=>rfl) ?_;apply Exists.intro;refine⟨fun vals w2 hG hd=>?_,?_⟩;(focus(have r:=(hG 1 _ rfl (by kernel_rfl):Row w2 p 80 #[.slice none acc0.length 0,.int .i64 0,.int .i64 0,.int .i64 0,.string ⟨#[]⟩,.slice none 0 0]);have u4:=r.cell 0;clear hd hG r;simp at u4;go_simp;exact Tame.Is.mk (Tame.Later.refl _))))
      |(refine Tame.walk3_write (o:=⟨some 18,_,_,_,_,_⟩) (AftC g c ts b v0 0 (zh 0 L.tail).unit (VN B2 (Value.slice none acc0.length 0).ownBlock) (fun y=>∀ z L',zh 0 L.tail=.ok z L'→y=z)) (none) ([5,7]) (fun _=>rfl) (by kernel_rfl) (by kernel_rfl) (fun u a c hl h=>AftC.later u6 h hl) (fun i _ hj u a c hs h=>AftC.turn u6 hj hs h (fun q hq=>(HV5.out q hq).1) hbv hvp hpB) (fun vals w2 hG hd=>?_) ?_;(focus(have ha2:=(hG 0 _ rfl (by kernel_rfl):RA g c ts b v0 0 (.ok () L.tail) w2);have hk2:=(hG 3 _ rfl (by kernel_rfl):Kp2 B2 b p v3 w2);have ho2:=(hG 2 _ rfl (by kernel_rfl):OwnW RS 9 1 B2 acc0 (Value.slice none acc0.length 0) w2);have HC:=YV (HN1.out w2 ha2.1);have HA9:=YV ha2;have hk3:=hk2.size;have HO2:=YV ho2;clear hd hG ha2 hk2 ho2;go_simp;refine HC.out.mono ?_;rintro e w' ⟨y,v,rfl,hv0,g1,g2,g3⟩;exact⟨_,rfl,Tame.Leaves.mk g1 ⟨HA9.out.step g2 g1,y,g3,hv0⟩⟩)))
      |(refine Tame.walk3_some (o:=⟨some 19,_,_,_,_,_⟩) (AftR (WN B2 (Value.slice none acc0.length 0).ownBlock) (fun y=>∀ z L',zh 0 L.tail=.ok z L'→y=z)) (none) ([3,5,7]) (by kernel_rfl) (fun _=>rfl) (by kernel_rfl) (fun u a c hl h=>AftR.later (v:=(Value.slice none acc0.length 0)) u5 h hl) (fun i _ hj u a c hs h=>AftR.turn u5 hj hs h (by omega) hpB) (fun vals w2 hG hd=>?_) ?_;(focus(have h1:=(hd 3 _ rfl (by kernel_rfl) rfl:AftC g c ts b v0 0 (zh 0 L.tail).unit (VN B2 (Value.slice none acc0.length 0).ownBlock) (fun y=>∀ z L',zh 0 L.tail=.ok z L'→y=z) (vals 3) w2);have hk2:=(hG 3 _ rfl (by kernel_rfl):Kp2 B2 b p v3 w2);have hk3:=hk2.size;have ho2:=(hG 2 _ rfl (by kernel_rfl):OwnW RS 9 1 B2 acc0 (Value.slice none acc0.length 0) w2);have HO2:=YV ho2;clear hG hd hk2 ho2;obtain⟨ha2,y,hyy,hv1⟩:=h1;replace hv1:vals 3=.string ⟨y.toArray⟩:=hv1;clear ha2;go_simp;exact Tame.Has.mk ((Below.refl _ _).alloc (Nat.le_refl _) _) ⟨y,hyy,Jg (by omega) (fun e=>by have:=(HO2.out.lt _ e.symm).2;omega)⟩)))
      |(refine Tame.walk3_write (o:=⟨some 20,_,_,_,_,_⟩) (AftS RS 9 1 B2 acc0 (fun y=>∀ z L',zh 0 L.tail=.ok z L'→y=z)) (none) ([7]) (fun _=>rfl) (by kernel_rfl) (by kernel_rfl) (fun u a c hl h=>AftS.later jE h hl) (fun i _ hj u a c hs h=>by obtain rfl:=zZ hj;exact AftS.other (p:=p) jE h hs hpB) (fun vals w2 hG hd=>?_) ?_;(focus(have hk2:=(hG 3 _ rfl (by kernel_rfl):Kp2 B2 b p v3 w2);have hk3:=hk2.size;have h1:=(hd 4 _ rfl (by kernel_rfl) rfl:AftR (WN B2 (Value.slice none acc0.length 0).ownBlock) (fun y=>∀ z L',zh 0 L.tail=.ok z L'→y=z) (vals 4) w2);have h2:=(hG 2 _ rfl (by kernel_rfl):OwnW RS 9 1 B2 acc0 (Value.slice none acc0.length 0) w2);clear hG hd hk2;obtain⟨y,hyy,g1,hv1,hr1,k2,k3⟩:=h1;obtain⟨cs,ho,hx⟩:=h2;exact zK (.tmp 16) (.tmp 19) _ rfl B2 9 i0 _ 1 16 Tryz.underlying43 HI0.out HI1.out HI2.out HI3.out rfl (by omega) (by omega) (Value.slice none acc0.length 0) _ cs rfl ho g1 1 9 [.string ⟨y.toArray⟩] hv1 rfl (by simpa using hr1) (jE.one (w:=w2) (S:=Sb B2 (Value.slice none acc0.length 0).ownBlock w2) (x:=y) rfl) (by omega) (by omega) (fun v' w' ho' hgr hat=>⟨hgr,y,hyy,OwnW.snoc jE hx ho' hgr hat rfl⟩))))
      |(refine Tame.walk3_lays (o:=⟨none,Op.store _ _ _,_,_,_,_⟩) (fun vals w=>Row w p 80 #[vals 5,.int .i64 0,.int .i64 0,.int .i64 0,.string ⟨#[]⟩,.slice none 0 0]) none ([]) ([5]) (fun _=>rfl) (by kernel_rfl) (by kernel_rfl) (by kernel_rfl) (fun vals vals' w hh h=>by rw[← hh 5 (by decide)];exact h) (fun vals w w' hl h=>Row.below h hl (Row.lt h)) (fun j hj hk=>by cases hk) (fun vals w2 hG hd=>?_) ?_;(focus(have h1:=(hd 5 _ rfl (by kernel_rfl) (by kernel_rfl):AftS RS 9 1 B2 acc0 (fun y=>∀ z L',zh 0 L.tail=.ok z L'→y=z) (vals 5) w2);have hr:=(hG 1 _ rfl (by kernel_rfl):Row w2 p 80 #[.slice none acc0.length 0,.int .i64 0,.int .i64 0,.int .i64 0,.string ⟨#[]⟩,.slice none 0 0]);clear hG hd;obtain⟨E1,d1,hv1⟩:=h1.slice;have HR1:=YV hr;have c4:=hr.cell 0;have f4:=hr.free 0;simp at c4;clear hr h1;go_simp;exact⟨zf (zd _ p) 0 _,by first | exact HR1.out.set 0 (.slice E1 (acc0.length+1) d1)|(rw[hv1];exact HR1.out.set 0 (.slice E1 (acc0.length+1) d1))⟩)))
      |(refine Tame.walk3_known (by kernel_rfl) (fun _=>rfl) ?_;apply Exists.intro;refine⟨fun vals w2 hG hd=>?_,?_⟩;(focus(go_simp;first | exact Tame.Is.mk (Tame.Later.refl _)|(rw[if_neg];(focus exact Tame.Is.mk (Tame.Later.refl _));omega)))))
      simp only[Act.put,List.setIfInBounds_toArray,List.set_cons_zero,List.set_cons_succ,List.nil_append,List.cons_append,List.length_cons,List.length_nil,Nat.zero_add,Nat.reduceAdd])
    refine Tame.walk3_end fun vals w5 hG hts=>?_
    have HF0:Hid (Kp2 B2 b p v3 w5):=YV (hG 3 _ rfl (by kernel_rfl))
    have HF3:Hid (RA g c ts b v0 0 (zh 0 L.tail).unit w5):=YV ((hts 3 _ rfl rfl:AftC g c ts b v0 0 (zh 0 L.tail).unit (VN B2 (Value.slice none acc0.length 0).ownBlock) (fun y=>∀ z L',zh 0 L.tail=.ok z L'→y=z) (vals 3) w5).1)
    have f5:AftS RS 9 1 B2 acc0 (fun y=>∀ z L',zh 0 L.tail=.ok z L'→y=z) (vals 5) w5:=hts 5 _ rfl rfl
    have f7:Row w5 p 80 #[vals 5,.int .i64 0,.int .i64 0,.int .i64 0,.string ⟨#[]⟩,.slice none 0 0]:=hts 7 _ rfl rfl
    obtain⟨y,hyy,f6⟩:=f5
    obtain⟨A7,c7,hv7,_⟩:=f6.slice
    rw[hv7] at f6 f7
    have HYY:=YV hyy
    have HF5:=YV f6
    have HF7:=YV f7
    clear f6 f7 hts hG hv7 hyy
    obtain⟨Fu,hFu⟩:=HFS.out y HYY.out
    have HFU:=YV hFu
    have HA1:Hid (acc0++[y]=[y]):=YV (by rw[HAC.out];rfl)
    clear hFu HN1 HV5 HRA HOT HPT HKT HFS
    go_wp2_with fail
    go_loopg [22] Fu (fun g' _ wr=>∃ (ns:List T) (Av:Option Addr) (cv:Nat) (σ':Pr Unit),vF RN 0 g' ns σ'∧RA g c ts b v0 0 σ' wr∧Row wr p 80 #[.slice Av ns.length cv,.int .i64 0,.int .i64 0,.int .i64 0,.string ⟨#[]⟩,.slice none 0 0]∧OwnW RS 9 1 B2 ns (.slice Av ns.length cv) wr∧Kp2 B2 b p v3 wr)
    case atStart=>exact⟨acc0++[y],A7,c7,_,by rw[HA1.out];exact HFU.out,HF3.out,HF7.out,HF5.out,HF0.out⟩
    case round=>
     obtain⟨acc,Av,cv,σ',hnm,hra,hrow,hown,hkp⟩:=hrel
     have HNM:=YV hnm
     replace HF3:=YV hra
     have HPT:=YV hrow
     have HOT:=YV hown
     have HKT:=YV hkp
     obtain⟨bl,hbl⟩:∃ bl,bl=isS [44] σ':=⟨_,rfl⟩
     have HI2S:Hid (Calls Tryz.prog 44 #[.pointer (some ⟨b,0,none⟩),.string ⟨#[44]⟩] wr fun e w'=>e=.returned (.bool bl)∧Below wr.heap.size wr w'):=YV (by rw[hbl];exact rIs g c ts b 0 [44] σ' wr hra.1 (by decide))
     cases bl with
     | false=>
      have hdn:=hnm.done hbl.symm
      have hlr:=HLR.out acc hdn.2
      have HMU:Hid (∀ w1,Rs g c ts w1 b 0 σ'→_):=YV fun w1 h1=>jJ g c ts b 0 [41] σ' w1 h1 (by decide)
      have HDN:=YV hdn
      have HLRR:=YV hlr
      clear hnm hra hrow hown hkp hbl hdn hlr HLR
      go_wp2_with (first|(go_at_call 44;refine HI2S.out.mono ?_;rintro e w92 ⟨rfl,hb⟩;have HRA9:=YV (HF3.out.later hb);replace HPT:=YV (HPT.out.below hb HPT.out.lt);replace HOT:=YV (HOT.out.keep jE (zc hb none) (fun q e=>by cases e));replace HKT:=YV (HKT.out.step (zc hb none) hBx (fun q e=>by cases e));clear hb HI2S)|(go_at_call 83;refine(HMU.out _ HRA9.out.1).mono ?_;rintro e w93 ⟨_,v,rfl,hv,g1,g2,_⟩;obtain rfl:v=.tuple #[]:=hv;have HRA10:Hid (RA g c ts b v0 0 (σ'.bind fun _ L=>ze [41] L) w93):=YV (HRA9.out.step (by rw[Pr.unit_id] at g2;exact g2) g1);replace HPT:=YV (HPT.out.grown g1 (fun e=>by injection e with e;omega));replace HOT:=YV (HOT.out.keep jE g1 (fun q e=>by injection e with e;omega));replace HKT:=YV (HKT.out.step g1 hBx (fun q e=>by injection e with e;exact .inl e.symm));clear g1 g2 HMU))
      go_meet
      case rel=>
       obtain⟨A8,c8,h8,hc8,hts⟩:=HOT.out.ts (lo:=p+1) (by omega)
       injection h8 with h81 h82 h83
       subst h81 h83
       refine⟨rfl,acc,_,_,HLRR.out.2,?_,HPT.out,(HKT.out.block q (by omega) hqb (by omega)).trans HR3.out,hts,hc8⟩
       rw[HLRR.out.1,HDN.out.1]
       exact HRA10.out
     | true=>
      cases σ' with
      | bad k a=>cases hbl
      | ok u Li=>
       have hp2:isP [44] Li=true:=hbl.symm
       have hwi:WFt Li:=hra.1.good_
       have hti:=zI hwi hp2 (by decide)
       obtain⟨fl,rfl⟩:∃ fl,gk=fl+1:=⟨gk - 1,by have:=(hnm.fuel Li rfl).1;omega⟩
       have hac:acc.length≤1001:=by have:=hnm.few;omega
       have HNX:Hid (∀ y,(∀ z L',zh acc.length Li.tail=.ok z L'→y=z)→vF RN 0 fl (acc++[y]) (zh acc.length Li.tail).unit):=YV fun y hy=>by
        have:=hnm.next (x:=y) hp2
        rw[Nat.zero_add] at this
        exact this hy
       have HNA:Hid (∀ w1,Rs g c ts w1 b 0 (.ok () Li.tail)→Calls Tryz.prog 84 #[.pointer (some ⟨b,0,none⟩),.int .i64 (acc.length:Int)] w1 (RRes g c ts b 0 w1 (fun (x:T) v _=>v=.string ⟨x.toArray⟩) (zh acc.length Li.tail))):=YV fun w1 h1=>u7 g c ts b 0 acc.length (.ok () Li.tail) w1 h1 (by omega)
       have HWT2:Hid (∀ M,(.ok () Li:Pr Unit)=.ok () M→WFt M.tail):=YV fun M e=>by injection e with _ e;rw[← e];exact hti.1
       clear hnm hra hrow hown hkp hbl hp2 hwi hti
       go_upto_region 6 with (go_at_call 44;refine HI2S.out.mono ?_;rintro e w92 ⟨rfl,hb⟩;have HS12:=YV (HF3.out.1.later hb);have HG12:=YV (za HF3.out.2 (zb hb b));replace HPT:=YV (HPT.out.below hb HPT.out.lt);replace HOT:=YV (HOT.out.keep jE (zc hb none) (fun q e=>by cases e));replace HKT:=YV (HKT.out.step (zc hb none) hBx (fun q e=>by cases e));clear hb HI2S)
       obtain⟨i12,op12,k12,a12,hr12,ha12⟩:=HS12.out.row_
       have HRW12:=YV hr12
       have HA12:=YV ha12
       have c1:=hr12.cell 1
       have f1:=hr12.free 1
       simp[zg] at c1
       clear hr12 ha12
       go_upto_region 7 with fail
       have HS13:Hid (Rs g c ts (w92.setCell ⟨b,1,none⟩ (.int .i64 (wrap64 (i12+1)))) b 0 (.ok () Li.tail)):=YV (HS12.out.inc HRW12.out HA12.out HWT2.out)
       have hgs:w92.grownBy (w92.setCell ⟨b,1,none⟩ (.int .i64 (wrap64 (i12+1)))) (some b):=zf (zd w92 b) 1 _
       have HG13:=YV (za HG12.out hgs)
       replace HPT:=YV (HPT.out.grown hgs (fun e=>by injection e with e;omega))
       replace HOT:=YV (HOT.out.keep jE hgs (fun q e=>by injection e with e;omega))
       replace HKT:=YV (HKT.out.step hgs hBx (fun q e=>by injection e with e;exact .inl e.symm))
       clear hgs c1 f1 HRW12 HA12
       generalize w92.setCell ⟨b,1,none⟩ (.int .i64 (wrap64 (i12+1)))=v13 at HS13 HG13 HPT HOT HKT ⊢
       have HRA:Hid (RA g c ts b v0 0 (.ok () Li.tail) v13):=YV ⟨HS13.out,HG13.out⟩
       have HV5:Hid (∀ q,(Value.slice Av acc.length cv).ownBlock=some q→B2≤q∧q<v13.heap.size):=YV (HOT.out.lt)
       clear HF0 HF5 HF7 HYY
       refine Tame.wp_region_tamg (L:=Tame.Later) (M:=MEj 6 8 b p (Value.slice Av acc.length cv)) (gs:=uk 6 8 10 g c ts b 0 p B2 (.ok () Li.tail) v0 v3 80 #[.slice Av acc.length cv,.int .i64 0,.int .i64 0,.int .i64 0,.string ⟨#[]⟩,.slice none 0 0] RS 9 1 acc (Value.slice Av acc.length cv)) [6,8,10] (by kernel_rfl) (by kernel_rfl) Tame.Later.refl (fun _ w=>World.grownBy.refl w _) (kV jE (by decide) (by decide) (by decide) HRA.out HPT.out HOT.out HKT.out hbv hvp hpB hBx) ?_
       repeat
        ((first
         |(refine Tame.walk3_known (o:=⟨some 33,_,_,_,_,_⟩) (by kernel_rfl) (fun _=>rfl) ?_;apply Exists.intro;refine⟨fun vals w2 hG hd=>?_,?_⟩;(focus(have r:=(hG 1 _ rfl (by kernel_rfl):Row w2 p 80 #[.slice Av acc.length cv,.int .i64 0,.int .i64 0,.int .i64 0,.string ⟨#[]⟩,.slice none 0 0]);have u4:=r.cell 0;clear hd hG r;simp at u4;go_simp;exact Tame.Is.mk (Tame.Later.refl _))))
         |(refine Tame.walk3_known (o:=⟨some 36,_,_,_,_,_⟩) (by kernel_rfl) (fun _=>rfl) ?_;apply Exists.intro;refine⟨fun vals w2 hG hd=>?_,?_⟩;(focus(have r:=(hG 1 _ rfl (by kernel_rfl):Row w2 p 80 #[.slice Av acc.length cv,.int .i64 0,.int .i64 0,.int .i64 0,.string ⟨#[]⟩,.slice none 0 0]);have u4:=r.cell 0;clear hd hG r;simp at u4;go_simp;exact Tame.Is.mk (Tame.Later.refl _))))
         |(refine Tame.walk3_write (o:=⟨some 38,_,_,_,_,_⟩) (AftC g c ts b v0 0 (zh acc.length Li.tail).unit (VN B2 (Value.slice Av acc.length cv).ownBlock) (fun y=>∀ z L',zh acc.length Li.tail=.ok z L'→y=z)) (none) ([8,10]) (fun _=>rfl) (by kernel_rfl) (by kernel_rfl) (fun u a c hl h=>AftC.later u6 h hl) (fun i _ hj u a c hs h=>AftC.turnJ (by decide) (by decide) (by decide) u6 hj hs h (fun q hq=>(HV5.out q hq).1) hbv hvp hpB) (fun vals w2 hG hd=>?_) ?_;(focus(have ha2:=(hG 0 _ rfl (by kernel_rfl):RA g c ts b v0 0 (.ok () Li.tail) w2);have hk2:=(hG 3 _ rfl (by kernel_rfl):Kp2 B2 b p v3 w2);have ho2:=(hG 2 _ rfl (by kernel_rfl):OwnW RS 9 1 B2 acc (Value.slice Av acc.length cv) w2);have HC:=YV (HNA.out w2 ha2.1);have HA9:=YV ha2;have hk3:=hk2.size;have HO2:=YV ho2;clear hd hG ha2 hk2 ho2;go_simp;refine HC.out.mono ?_;rintro e w' ⟨y,v,rfl,hv0,g1,g2,g3⟩;exact⟨_,rfl,Tame.Leaves.mk g1 ⟨HA9.out.step g2 g1,y,g3,hv0⟩⟩)))
         |(refine Tame.walk3_some (o:=⟨some 39,_,_,_,_,_⟩) (AftR (WN B2 (Value.slice Av acc.length cv).ownBlock) (fun y=>∀ z L',zh acc.length Li.tail=.ok z L'→y=z)) (none) ([6,8,10]) (by kernel_rfl) (fun _=>rfl) (by kernel_rfl) (fun u a c hl h=>AftR.later (v:=(Value.slice Av acc.length cv)) u5 h hl) (fun i _ hj u a c hs h=>AftR.turnJ (by decide) (by decide) (by decide) u5 hj hs h (by omega) hpB) (fun vals w2 hG hd=>?_) ?_;(focus(have h1:=(hd 6 _ rfl (by kernel_rfl) rfl:AftC g c ts b v0 0 (zh acc.length Li.tail).unit (VN B2 (Value.slice Av acc.length cv).ownBlock) (fun y=>∀ z L',zh acc.length Li.tail=.ok z L'→y=z) (vals 6) w2);have hk2:=(hG 3 _ rfl (by kernel_rfl):Kp2 B2 b p v3 w2);have hk3:=hk2.size;have ho2:=(hG 2 _ rfl (by kernel_rfl):OwnW RS 9 1 B2 acc (Value.slice Av acc.length cv) w2);have HO2:=YV ho2;clear hG hd hk2 ho2;obtain⟨ha2,y,hyy,hv1⟩:=h1;replace hv1:vals 6=.string ⟨y.toArray⟩:=hv1;clear ha2;go_simp;exact Tame.Has.mk ((Below.refl _ _).alloc (Nat.le_refl _) _) ⟨y,hyy,Jg (by omega) (fun e=>by have:=(HO2.out.lt _ e.symm).2;omega)⟩)))
         |(refine Tame.walk3_write (o:=⟨some 40,_,_,_,_,_⟩) (AftS RS 9 1 B2 acc (fun y=>∀ z L',zh acc.length Li.tail=.ok z L'→y=z)) (none) ([10]) (fun _=>rfl) (by kernel_rfl) (by kernel_rfl) (fun u a c hl h=>AftS.later jE h hl) (fun i _ hj u a c hs h=>by obtain rfl:=zZ hj;exact AftS.other (p:=p) jE h hs hpB) (fun vals w2 hG hd=>?_) ?_;(focus(have hk2:=(hG 3 _ rfl (by kernel_rfl):Kp2 B2 b p v3 w2);have hk3:=hk2.size;have h1:=(hd 7 _ rfl (by kernel_rfl) rfl:AftR (WN B2 (Value.slice Av acc.length cv).ownBlock) (fun y=>∀ z L',zh acc.length Li.tail=.ok z L'→y=z) (vals 7) w2);have h2:=(hG 2 _ rfl (by kernel_rfl):OwnW RS 9 1 B2 acc (Value.slice Av acc.length cv) w2);clear hG hd hk2;obtain⟨y,hyy,g1,hv1,hr1,k2,k3⟩:=h1;obtain⟨cs,ho,hx⟩:=h2;exact zK (.tmp 33) (.tmp 39) _ rfl B2 9 i0 _ 1 16 Tryz.underlying43 HI0.out HI1.out HI2.out HI3.out rfl (by omega) (by omega) (Value.slice Av acc.length cv) _ cs rfl ho g1 1 9 [.string ⟨y.toArray⟩] hv1 rfl (by simpa using hr1) (jE.one (w:=w2) (S:=Sb B2 (Value.slice Av acc.length cv).ownBlock w2) (x:=y) rfl) (by omega) (by omega) (fun v' w' ho' hgr hat=>⟨hgr,y,hyy,OwnW.snoc jE hx ho' hgr hat rfl⟩))))
         |(refine Tame.walk3_lays (o:=⟨none,Op.store _ _ _,_,_,_,_⟩) (fun vals w=>Row w p 80 #[vals 8,.int .i64 0,.int .i64 0,.int .i64 0,.string ⟨#[]⟩,.slice none 0 0]) none ([]) ([8]) (fun _=>rfl) (by kernel_rfl) (by kernel_rfl) (by kernel_rfl) (fun vals vals' w hh h=>by rw[← hh 8 (by decide)];exact h) (fun vals w w' hl h=>Row.below h hl (Row.lt h)) (fun j hj hk=>by cases hk) (fun vals w2 hG hd=>?_) ?_;(focus(have h1:=(hd 8 _ rfl (by kernel_rfl) (by kernel_rfl):AftS RS 9 1 B2 acc (fun y=>∀ z L',zh acc.length Li.tail=.ok z L'→y=z) (vals 8) w2);have hr:=(hG 1 _ rfl (by kernel_rfl):Row w2 p 80 #[.slice Av acc.length cv,.int .i64 0,.int .i64 0,.int .i64 0,.string ⟨#[]⟩,.slice none 0 0]);clear hG hd;obtain⟨E1,d1,hv1⟩:=h1.slice;have HR1:=YV hr;have c4:=hr.cell 0;have f4:=hr.free 0;simp at c4;clear hr h1;go_simp;exact⟨zf (zd _ p) 0 _,by first | exact HR1.out.set 0 (.slice E1 (acc.length+1) d1)|(rw[hv1];exact HR1.out.set 0 (.slice E1 (acc.length+1) d1))⟩)))
         |(refine Tame.walk3_known (by kernel_rfl) (fun _=>rfl) ?_;apply Exists.intro;refine⟨fun vals w2 hG hd=>?_,?_⟩;(focus(go_simp;first | exact Tame.Is.mk (Tame.Later.refl _)|(rw[if_neg];(focus exact Tame.Is.mk (Tame.Later.refl _));omega)))))
         simp only[Act.put,List.setIfInBounds_toArray,List.set_cons_zero,List.set_cons_succ,List.nil_append,List.cons_append,List.length_cons,List.length_nil,Nat.zero_add,Nat.reduceAdd])
       refine Tame.walk3_end fun vals w5 hG hts=>?_
       have HF0:Hid (Kp2 B2 b p v3 w5):=YV (hG 3 _ rfl (by kernel_rfl))
       have HF3:Hid (RA g c ts b v0 0 (zh acc.length Li.tail).unit w5):=YV ((hts 6 _ rfl rfl:AftC g c ts b v0 0 (zh acc.length Li.tail).unit (VN B2 (Value.slice Av acc.length cv).ownBlock) (fun y=>∀ z L',zh acc.length Li.tail=.ok z L'→y=z) (vals 6) w5).1)
       have f5:AftS RS 9 1 B2 acc (fun y=>∀ z L',zh acc.length Li.tail=.ok z L'→y=z) (vals 8) w5:=hts 8 _ rfl rfl
       have f7:Row w5 p 80 #[vals 8,.int .i64 0,.int .i64 0,.int .i64 0,.string ⟨#[]⟩,.slice none 0 0]:=hts 10 _ rfl rfl
       obtain⟨y,hyy,f6⟩:=f5
       obtain⟨A7,c7,hv7,_⟩:=f6.slice
       rw[hv7] at f6 f7
       have HYY:=YV hyy
       have HF5:=YV f6
       have HF7:=YV f7
       clear f6 f7 hts hG hv7 hyy
       go_wp2_with fail
       go_roundg fl
       case rel=>exact⟨acc++[y],A7,c7,_,HNX.out y HYY.out,HF3.out,by simpa using HF7.out,HF5.out,HF0.out⟩
       case measure=>omega
 case rest=>
  obtain⟨rfl,ns,A,cv,hn,hla⟩:=hcut
  have HLA:=YV hla
  have HN:=YV hn
  have HM1:Hid (∀ w1,Rs g c ts w1 b 0 rl.unit→Calls Tryz.prog 83 #[.pointer (some ⟨b,0,none⟩),.string ⟨#[61]⟩] w1 (RRes g c ts b 0 w1 NoV σ2)):=YV fun w1 h1=>by rw[HS2D.out];exact jJ g c ts b 0 [61] rl.unit w1 h1 (by decide)
  obtain⟨K0,hK0⟩:∃ K,K=nowK σ2:=⟨_,rfl⟩
  obtain⟨Y0,hY0⟩:∃ y,y=nowT σ2:=⟨_,rfl⟩
  obtain⟨N0,hN0⟩:∃ N,N=nowN σ2:=⟨_,rfl⟩
  obtain⟨P0,hP0⟩:∃ F,F=nowF σ2:=⟨_,rfl⟩
  have HNO:Hid (∀ w1,Rs g c ts w1 b 0 σ2→Calls Tryz.prog 43 #[.pointer (some ⟨b,0,none⟩)] w1 fun e w'=>e=.returned (.agg #[.int .i64 K0,.string ⟨Y0.toArray⟩,.int .i64 N0,.int .i64 (P0:Int)])∧Below w1.heap.size w1 w'):=YV fun w1 h1=>by rw[hK0,hY0,hN0,hP0];exact rNow g c ts b 0 σ2 w1 h1
  have HEX:Hid (∀ w1,Rs g c ts w1 b 0 σ2→Calls Tryz.prog 116 #[.pointer (some ⟨b,0,none⟩)] w1 (RRes g c ts b 0 w1 (XV w1.heap.size) rx)):=YV fun w1 h1=>by rw[HRXD.out];exact ZP h1
  have hfl:=rfld3
  have HP0:=YV hP0
  clear hla hn hK0 hY0 hN0 hP0 HRA1 HP1 HR1
  go_upto_region 13 with (first|(go_at_call 83;refine(HM1.out _ HLA.out.ra.1).mono ?_;rintro e w4 ⟨_,v,rfl,hv,g1,g2,_⟩;obtain rfl:v=.tuple #[]:=hv;have HLA4:=YV (HLA.out.grow (σ':=σ2) (by rw[Pr.unit_id] at g2;exact g2) g1 hbq2 hbp);clear g1 g2 HM1)|(go_at_call 43;refine(HNO.out _ HLA4.out.ra.1).mono ?_;rintro e w5 ⟨rfl,hb⟩;have HLA5:=YV (HLA4.out.grow (HLA4.out.ra.1.later hb) (zb hb b) hbq2 hbp);clear hb HNO)|(go_at_call 116;refine(HEX.out _ HLA5.out.ra.1).mono ?_;rintro e w6 ⟨x,v,rfl,⟨Ax,cx,rfl,hk⟩,g1,g2,g3⟩;have hpl:=HLA5.out.box.lt;have HLA6:=YV (HLA5.out.grow g2 g1 hbq2 hbp);have HK6:Hid (KS w6 (Bt (p+1) w6.heap.size) Ax x.ks):=YV (hk.move fun m hm=>⟨⟨by have:=hm.1;omega,hm.2⟩,rfl⟩);have HVX:=YV g3;have HTH:=JK HLA6.out.box;clear g1 g2 g3 hk hpl HEX)|(refine wpList_store_mid (op:=⟨none,Op.store _ _ _,_,_,_,_⟩) rfl _ _ _ rfl p 1 (x5 x Ax cx) rfl rfl HTH zo (jf x Ax cx) ?_))
  obtain⟨hrowM,hgM⟩:=row_mid HLA6.out.box x Ax cx
  have HS7:Hid (Rs g c ts (w6.setCells p 1 (x5 x Ax cx).toList) b 0 rx.unit):=YV (HLA6.out.ra.1.grown hgM (fun k e=>by injection e with e;omega))
  have HG7:Hid (v0.grownBy (w6.setCells p 1 (x5 x Ax cx).toList) (some b)):=YV (jb HLA6.out.ra.2 hgM (fun k e=>by injection e with e;omega))
  have HRQ7:Hid (Row (w6.setCells p 1 (x5 x Ax cx).toList) q 80 #[.slice none 0 0,.int .i64 0,.int .i64 0,.int .i64 0,.string ⟨#[]⟩,.slice none 0 0]):=YV (HLA6.out.res.grown hgM (fun e=>by injection e with e;omega))
  have HTS7:Hid (TS (w6.setCells p 1 (x5 x Ax cx).toList) (Bt (p+1) (w6.setCells p 1 (x5 x Ax cx).toList).heap.size) A ns):=YV (HLA6.out.names.move (Bt.step hgM (fun k e=>by injection e with e;omega)))
  have HKS7:Hid (KS (w6.setCells p 1 (x5 x Ax cx).toList) (Bt (p+1) (w6.setCells p 1 (x5 x Ax cx).toList).heap.size) Ax x.ks):=YV (HK6.out.move (Bt.step hgM (fun k e=>by injection e with e;omega)))
  have HCAP:=YV HLA6.out.cap
  have HSG:Hid (∀ L0,σ2=.ok () L0→WFt L0∧L0.length≤1000000):=YV fun L0 e=>by
   have h4:=HLA5.out.ra.1
   rw[e] at h4
   exact h4.len
  have HB7:=YV hrowM
  clear hrowM hgM HTH HLA HLA4 HLA5 HLA6 HK6
  generalize w6.setCells p 1 (x5 x Ax cx).toList=v7 at HS7 HG7 HRQ7 HTS7 HKS7 HB7 ⊢
  have HFR:=YV (HRR.out ns x HN.out HVX.out)
  clear HRR
  rcases rx.cases with ⟨y,L3,hE⟩ | ⟨k,a,hE⟩
  ·obtain rfl:=HVX.out y L3 hE
   obtain⟨L0,hs2,hdp,hex⟩:=Yy (by rw[← HRXD.out];exact hE)
   have hs7:=HS7.out
   rw[hE] at hs7
   have HS8:Hid (Rs g c ts v7 b 0 (.ok () L3)):=YV hs7
   obtain⟨i4,op4,k4,a4,hr4,ha4⟩:=hs7.row_
   obtain⟨rfl,rfl,_⟩:=ha4
   have c34:=hr4.cell 3
   simp[zg] at c34
   have e1:=HB7.out.cell 1
   have e2:=HB7.out.cell 2
   have e3:=HB7.out.cell 3
   have e4:=HB7.out.cell 4
   have e5:=HB7.out.cell 5
   have ez:=HB7.out.lt
   simp at e1 e2 e3 e4 e5
   have hsz:x.size≤1000000:=by
    obtain⟨hw0,hl0⟩:=HSG.out L0 hs2
    have:=(sizes (jn L0)).expr L0 0 hw0 x L3 hex
    omega
   have HDC:Hid (∀ w1,Below v7.heap.size v7 w1→Calls Tryz.prog 38 #[.agg #[.int .i64 x.k,.int .i64 x.o,.int .i64 x.n,.string ⟨x.s.toArray⟩,.slice Ax x.ks.length cx]] w1 fun e w'=>e=.returned (.int .i64 (x.depth:Nat))∧Below w1.heap.size w1 w'):=YV fun w1 hb=>xf 1000000 x Ax cx w1 (Bt (p+1) v7.heap.size) hsz (by omega) (HKS7.out.later (fun m hm=>hm.2) hb) (fun m hm=>Nat.lt_of_lt_of_le hm.2 hb.size)
   by_cases hd:200<x.depth
   ·have hdi:(200:Int)<(x.depth:Int):=by omega
    rw[if_pos hd] at hdp
    have HDP:=YV hdp
    have HGV:Hid (∀ w1,Rs g c ts w1 b 0 (.ok () L3)→Calls Tryz.prog 82 #[.pointer (some ⟨b,0,none⟩),.int .i64 5,.int .i64 (P0:Int)] w1 (RRes g c ts b 0 w1 NoV (vE σ2))):=YV fun w1 h1=>by
     have h2:=rGive g c ts b 0 5 P0 (.ok () L3) w1 h1 (by decide)
     have h3:P0=hdF L0:=by rw[HP0.out,hs2];rfl
     rw[hdp,← h3];exact h2
    clear hs7 hr4 hs2 hdp hex hd hE hsz
    go_upto_region 15 with (first|(go_at_call 38;refine(HDC.out _ (Below.refl _ _)).mono ?_;rintro e w8 ⟨rfl,hb⟩;have HB8:=YV hb;clear hb HDC)|(go_at_call 82;refine(HGV.out _ (HS8.out.later HB8.out)).mono ?_;rintro e w9 ⟨_,v,rfl,hv,g1,g2,_⟩;obtain rfl:v=.tuple #[]:=hv;have HGT:Hid (v7.grownBy w9 (some b)):=YV (za (zb HB8.out b) g1);have HST:Hid (Rs g c ts w9 b 0 (vE σ2)):=YV (by rw[Pr.unit_id] at g2;exact g2);clear g1 g2 HGV))
    clear c34 e1 e2 e3 e4 e5 ez hdi
    have HM5:Hid (∀ w1,Rs g c ts w1 b 0 (vE σ2)→_):=YV fun w1 h1=>jJ g c ts b 0 [59] (vE σ2) w1 h1 (by decide)
    go_wp2_with (first|(go_at_call 83;refine(HM5.out _ HST.out).mono ?_;rintro e w10 ⟨_,v,rfl,hv,g1,g2,_⟩;obtain rfl:v=.tuple #[]:=hv;have hg:=za HGT.out g1;have HS10:Hid (Rs g c ts w10 b 0 R.unit):=YV (by rw[HFR.out.1];rw[Pr.unit_id] at g2;exact g2);have HG10:=YV (za HG7.out hg);have hp10:=HB7.out.grown hg (fun e=>by injection e with e;omega);have HROW:=HRQ7.out.grown hg (fun e=>by injection e with e;omega);have HTS10:=YV (HTS7.out.move (Bt.step hg (fun k e=>by injection e with e;omega)));have HKS10:=YV (HKS7.out.move (Bt.step hg (fun k e=>by injection e with e;omega)));have e0:=hp10.cell 0;have e1:=hp10.cell 1;have e2:=hp10.cell 2;have e3:=hp10.cell 3;have e4:=hp10.cell 4;have e5:=hp10.cell 5;have ez:=hp10.lt;simp at e0 e1 e2 e3 e4 e5;clear g1 g2 hg hp10 HM5)|(refine wpList_store_row (o:=⟨none,Op.store _ _ _,_,_,_,_⟩) rfl _ _ _ rfl q (q6 ⟨ns,x⟩ A cv Ax cx) rfl rfl _ _ HROW vf rfl (xj _ _ _ _ _) ?_))
    obtain⟨t1,t2⟩:=Jd (r:=R) (x:=⟨ns,x⟩) (A1:=A) (A2:=Ax) (c1:=cv) (c2:=cx) HQ.out (by omega) HV.out HG10.out HROW (HTS10.out.move fun m hm=>⟨⟨by have:=hm.1;omega,hm.2⟩,rfl⟩) (HKS10.out.move fun m hm=>⟨⟨by have:=hm.1;omega,hm.2⟩,rfl⟩) HCAP.out HS10.out HFR.out.2
    first | exact bodyPost_ret (results_cell_row rfl _ _ q _ _ _ _ rfl t1 Tryz.underlying80 rfl vf) rfl t2|(rw[← HQ.out] at t2;exact bodyPost_ret (results_cell_row rfl _ _ q _ _ _ _ rfl t1 Tryz.underlying80 rfl vf) rfl t2)
   ·have hdi:¬ (200:Int)<(x.depth:Int):=by omega
    rw[if_neg hd] at hdp
    have HDP:=YV hdp
    clear hs7 hr4 hs2 hdp hex hd hE hsz
    go_upto_region 15 with (go_at_call 38;refine(HDC.out _ (Below.refl _ _)).mono ?_;rintro e w9 ⟨rfl,hb⟩;have HGT:Hid (v7.grownBy w9 (some b)):=YV (zb hb b);have HST:Hid (Rs g c ts w9 b 0 (vE σ2)):=YV (by rw[HDP.out];exact HS8.out.later hb);clear hb HDC)
    clear c34 e1 e2 e3 e4 e5 ez hdi
    have HM5:Hid (∀ w1,Rs g c ts w1 b 0 (vE σ2)→_):=YV fun w1 h1=>jJ g c ts b 0 [59] (vE σ2) w1 h1 (by decide)
    go_wp2_with (first|(go_at_call 83;refine(HM5.out _ HST.out).mono ?_;rintro e w10 ⟨_,v,rfl,hv,g1,g2,_⟩;obtain rfl:v=.tuple #[]:=hv;have hg:=za HGT.out g1;have HS10:Hid (Rs g c ts w10 b 0 R.unit):=YV (by rw[HFR.out.1];rw[Pr.unit_id] at g2;exact g2);have HG10:=YV (za HG7.out hg);have hp10:=HB7.out.grown hg (fun e=>by injection e with e;omega);have HROW:=HRQ7.out.grown hg (fun e=>by injection e with e;omega);have HTS10:=YV (HTS7.out.move (Bt.step hg (fun k e=>by injection e with e;omega)));have HKS10:=YV (HKS7.out.move (Bt.step hg (fun k e=>by injection e with e;omega)));have e0:=hp10.cell 0;have e1:=hp10.cell 1;have e2:=hp10.cell 2;have e3:=hp10.cell 3;have e4:=hp10.cell 4;have e5:=hp10.cell 5;have ez:=hp10.lt;simp at e0 e1 e2 e3 e4 e5;clear g1 g2 hg hp10 HM5)|(refine wpList_store_row (o:=⟨none,Op.store _ _ _,_,_,_,_⟩) rfl _ _ _ rfl q (q6 ⟨ns,x⟩ A cv Ax cx) rfl rfl _ _ HROW vf rfl (xj _ _ _ _ _) ?_))
    obtain⟨t1,t2⟩:=Jd (r:=R) (x:=⟨ns,x⟩) (A1:=A) (A2:=Ax) (c1:=cv) (c2:=cx) HQ.out (by omega) HV.out HG10.out HROW (HTS10.out.move fun m hm=>⟨⟨by have:=hm.1;omega,hm.2⟩,rfl⟩) (HKS10.out.move fun m hm=>⟨⟨by have:=hm.1;omega,hm.2⟩,rfl⟩) HCAP.out HS10.out HFR.out.2
    first | exact bodyPost_ret (results_cell_row rfl _ _ q _ _ _ _ rfl t1 Tryz.underlying80 rfl vf) rfl t2|(rw[← HQ.out] at t2;exact bodyPost_ret (results_cell_row rfl _ _ q _ _ _ _ rfl t1 Tryz.underlying80 rfl vf) rfl t2)
  ·have hdp:=Zn (by rw[← HRXD.out];exact hE)
   have hs7:=HS7.out
   rw[hE] at hs7
   have hk0:¬ k=0:=hs7.good_
   obtain⟨i4,op4,k4,a4,hr4,ha4⟩:=hs7.row_
   obtain⟨rfl,rfl⟩:=ha4
   have c34:=hr4.cell 3
   simp[zg] at c34
   have HST:Hid (Rs g c ts v7 b 0 (vE σ2)):=YV (by rw[hdp];exact hs7)
   have HGT:Hid (v7.grownBy v7 (some b)):=YV (zd v7 b)
   clear hs7 hr4 hdp hE
   go_upto_region 15 with fail
   clear c34 hk0
   have HM5:Hid (∀ w1,Rs g c ts w1 b 0 (vE σ2)→_):=YV fun w1 h1=>jJ g c ts b 0 [59] (vE σ2) w1 h1 (by decide)
   go_wp2_with (first|(go_at_call 83;refine(HM5.out _ HST.out).mono ?_;rintro e w10 ⟨_,v,rfl,hv,g1,g2,_⟩;obtain rfl:v=.tuple #[]:=hv;have hg:=za HGT.out g1;have HS10:Hid (Rs g c ts w10 b 0 R.unit):=YV (by rw[HFR.out.1];rw[Pr.unit_id] at g2;exact g2);have HG10:=YV (za HG7.out hg);have hp10:=HB7.out.grown hg (fun e=>by injection e with e;omega);have HROW:=HRQ7.out.grown hg (fun e=>by injection e with e;omega);have HTS10:=YV (HTS7.out.move (Bt.step hg (fun k e=>by injection e with e;omega)));have HKS10:=YV (HKS7.out.move (Bt.step hg (fun k e=>by injection e with e;omega)));have e0:=hp10.cell 0;have e1:=hp10.cell 1;have e2:=hp10.cell 2;have e3:=hp10.cell 3;have e4:=hp10.cell 4;have e5:=hp10.cell 5;have ez:=hp10.lt;simp at e0 e1 e2 e3 e4 e5;clear g1 g2 hg hp10 HM5)|(refine wpList_store_row (o:=⟨none,Op.store _ _ _,_,_,_,_⟩) rfl _ _ _ rfl q (q6 ⟨ns,x⟩ A cv Ax cx) rfl rfl _ _ HROW vf rfl (xj _ _ _ _ _) ?_))
   obtain⟨t1,t2⟩:=Jd (r:=R) (x:=⟨ns,x⟩) (A1:=A) (A2:=Ax) (c1:=cv) (c2:=cx) HQ.out (by omega) HV.out HG10.out HROW (HTS10.out.move fun m hm=>⟨⟨by have:=hm.1;omega,hm.2⟩,rfl⟩) (HKS10.out.move fun m hm=>⟨⟨by have:=hm.1;omega,hm.2⟩,rfl⟩) HCAP.out HS10.out HFR.out.2
   first | exact bodyPost_ret (results_cell_row rfl _ _ q _ _ _ _ rfl t1 Tryz.underlying80 rfl vf) rfl t2|(rw[← HQ.out] at t2;exact bodyPost_ret (results_cell_row rfl _ _ q _ _ _ _ rfl t1 Tryz.underlying80 rfl vf) rfl t2)
end Go.Proofs.YtdabndiaflagpaaGreatDoor
