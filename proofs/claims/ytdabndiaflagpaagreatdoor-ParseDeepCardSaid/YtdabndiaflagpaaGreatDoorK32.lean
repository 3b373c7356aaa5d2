/- Parts: PsY6. -/
import Derived.Test.YtdabndiaflagpaaGreatDoorK25
set_option maxRecDepth 100000
set_option maxHeartbeats 4000000
namespace Go.Proofs.YtdabndiaflagpaaGreatDoor
open Go.RowKit
attribute [local go_sem] Tame.Op Tame.upon
structure un (RM:Pr (List X)) (o f:Nat) (acc:List X) (σ:Pr Unit):Prop where
 eq:RM=σ.bind fun _ L=>zU f acc L o
 fuel:∀ L,σ=.ok () L→16 * L.length+1≤f∧acc.length≤1000
 few:acc.length≤1001
theorem un.done {RM:Pr (List X)} {o f:Nat} {acc:List X} {σ:Pr Unit} (h:un RM o f acc σ) (hp:isS [44] σ=false):RM.unit=σ∧∀ y L,RM=.ok y L→acc=y:=by
 cases σ with
 | bad k a=>rw[h.eq];exact⟨rfl,fun y L e=>by cases e⟩
 | ok u L=>
  have hp:isP [44] L=false:=hp
  have:=(h.fuel L rfl).1
  obtain⟨f,rfl⟩:∃ f',f=f'+1:=⟨f - 1,by omega⟩
  have e:RM=.ok acc L:=by
   rw[h.eq]
   show zU (f+1) acc L o=_
   rw[zU,if_neg (by rw[hp];decide)]
  rw[e]
  exact⟨rfl,fun y L e=>by injection e⟩
def vj (n:Nat) (L:List Tk):Pr Unit:=if 1000≤n then zC 4 L else .ok () L
theorem un.next {RM:Pr (List X)} {o f:Nat} {acc:List X} {L:List Tk} {x:X} (h:un RM o (f+1) acc (.ok () L)) (hw:WFt L) (hp:isP [44] L=true) (hx:∀ y L',((vj acc.length L.tail).bind fun _ L=>zn f L o)=.ok y L'→x=y) :
  un RM o f (acc++[x]) ((vj acc.length L.tail).bind fun _ L=>zn f L o).unit:=by
 have ht:=zI hw hp (by decide)
 have hf:=h.fuel L rfl
 have e:RM=((vj acc.length L.tail).bind fun _ L=>zn f L o).bind fun x L=>zU f (acc++[x]) L o:=by
  rw[h.eq]
  show zU (f+1) acc L o=_
  rw[zU,if_pos hp,Pr.bind_assoc]
  unfold vj
  by_cases h1:1000≤acc.length
  ·rw[if_pos h1,if_pos h1];rfl
  ·rw[if_neg h1,if_neg h1];rfl
 refine⟨by rw[e];exact Pr.seq hx fun x L=>zU f (acc++[x]) L o,fun M em=>?_,by simp;omega⟩
 unfold vj at em
 by_cases h1:1000≤acc.length
 ·rw[if_pos h1] at em;cases em
 ·rw[if_neg h1] at em
  have em:(zn f L.tail o).unit=.ok () M:=em
  cases hr:zn f L.tail o with
  | bad k a=>rw[hr] at em;cases em
  | ok y K=>
   rw[hr] at em
   obtain rfl:K=M:=by injection em
   have:=((jD f).expr L.tail o ht.1 y K hr).2
   simp
   omega
theorem call_eq {RM:Pr (List X)} {acc:List X} {nm:T} (h:∀ y L,RM=.ok y L→acc=y) :
  ((RM.bind fun ks L=>(ze [41] L).bind fun _ L=>Pr.ok ks L).bind fun ks L'=>Pr.ok (X.mk 6 0 0 nm ks) L').unit=(RM.unit.bind fun _ L=>ze [41] L)∧
   ∀ v L',((RM.bind fun ks L=>(ze [41] L).bind fun _ L=>Pr.ok ks L).bind fun ks L'=>Pr.ok (X.mk 6 0 0 nm ks) L')=.ok v L'→X.mk 6 0 0 nm acc=v:=by
 cases RM with
 | bad k a=>exact⟨rfl,fun v L' e=>by cases e⟩
 | ok ks L=>
  obtain rfl:=h ks L rfl
  show (((ze [41] L).bind fun _ L=>Pr.ok acc L).bind fun ks L'=>Pr.ok (X.mk 6 0 0 nm ks) L').unit=ze [41] L∧∀ v L',(((ze [41] L).bind fun _ L=>Pr.ok acc L).bind fun ks L'=>Pr.ok (X.mk 6 0 0 nm ks) L')=.ok v L'→X.mk 6 0 0 nm acc=v
  cases ze [41] L with
  | bad k a=>exact⟨rfl,fun v L' e=>by cases e⟩
  | ok u K=>exact⟨rfl,fun v L' e=>by injection e⟩
theorem JW (g c:Nat) (ts:List Tk) (b f o:Nat) (L:List Tk) (w:World) (h:Rs g c ts w b o (.ok () L)) (hk1:hdK L=1) (hW3:isP [40] L.tail=true) (R:Pr X) (hR:R=(zy f L.tail o).bind fun ks L'=>.ok (.mk 6 0 0 (hdT L) ks) L') (ih:∀ f',f'≤f→RE g c ts b f') (hf:16 * L.length+3≤f) :
  Calls Tryz.prog 186 #[.pointer (some ⟨b,0,none⟩)] w (RRes g c ts b o w (XV w.heap.size) R):=by
 have hlt:=h.lt
 have ho4:=h.open_
 have hwf:WFt L:=h.good_
 have HN0:Hid (∀ w1,Rs g c ts w1 b o (.ok () L)→Calls Tryz.prog 43 #[.pointer (some ⟨b,0,none⟩)] w1 fun e w'=>e=.returned (.agg #[.int .i64 (hdK L),.string ⟨(hdT L).toArray⟩,.int .i64 (hdN L),.int .i64 (hdF L:Int)])∧Below w1.heap.size w1 w'):=YV fun w1 h1=>rNow g c ts b o (.ok () L) w1 h1
 obtain⟨F0,hF0⟩:∃ F0:Int,F0=(hdF L:Int):=⟨_,rfl⟩
 obtain⟨N,hN⟩:∃ N,N=hdN L:=⟨_,rfl⟩
 obtain⟨K,hK⟩:∃ K,K=hdK L:=⟨_,rfl⟩
 obtain⟨Y,hY⟩:∃ Y:ByteArray,Y=⟨(hdT L).toArray⟩:=⟨_,rfl⟩
 rw[← hF0,← hN,← hK,← hY] at HN0
 obtain⟨v0,hv0⟩:∃ v,v=w.alloc (.cells #[.int .i64 0,.int .i64 0,.int .i64 0,.string ⟨#[]⟩,.slice none 0 0] 52):=⟨_,rfl⟩
 have hv:Below w.heap.size w v0:=by rw[hv0];exact(Below.refl _ _).alloc (Nat.le_refl _) _
 have HV:=YV hv
 have hz0:v0.heap.size=w.heap.size+1:=by rw[hv0];simp
 have HZ0:=YV hz0
 have HR:Hid (Row v0 w.heap.size 52 z5):=YV (by rw[hv0];exact Row.made _ _ _)
 have HS0:Hid (Rs g c ts v0 b o (.ok () L)):=YV (h.later hv)
 obtain⟨q,hq⟩:∃ q,q=w.heap.size:=⟨_,rfl⟩
 have HQ:=YV hq
 rw[← hq] at HR hz0 hlt
 have hqb:q≠b:=by omega
 have hqv:q<v0.heap.size:=by omega
 have hbv:b<v0.heap.size:=by omega
 have HFIN:Hid (∀ (wk:World) (x:X) (A:Option Addr) (cx:Nat) (old:Array Value),v0.grownBy wk (some b)→Row wk q 52 old→KS wk (Bt (q+1) wk.heap.size) A x.ks→Rs g c ts wk b o R.unit→(∀ y L,R=.ok y L→x=y)→_):=YV fun wk x A cx old h1 h2 h3 h4 h5=>vX (cx:=cx) hq (by omega) hv h1 h2 h3 h4 h5
 obtain⟨t0,r0,hL0,hgt,hwt⟩:=hwf.pass (.inr (by rw[hk1];decide))
 have hnm:zB (hdT L)=true:=by rw[hL0];exact hgt.name_ (by rw[hL0] at hk1;exact hk1)
 have hnk:∀ s,keyB s=true→isP s L=false:=fun s hs=>by
  unfold isP
  refine decide_eq_false fun e=>?_
  have:=(uw s hs).2.1
  rw[← e,hnm] at this;cases this
 have hWT:=hnk jK (by decide)
 have hWF:=hnk ju (by decide)
 have hW4:=hnk [40] (by decide)
 have H1:Hid (∀ w1,Rs g c ts w1 b o (.ok () L)→Calls Tryz.prog 44 #[.pointer (some ⟨b,0,none⟩),.string ⟨#[116,114,117,101]⟩] w1 fun e w'=>e=.returned (.bool false)∧Below w1.heap.size w1 w'):=YV fun w1 h1=>(rIs g c ts b o jK (.ok () L) w1 h1 (by decide)).mono fun e w' hh=>⟨by rw[hh.1];show Ending.returned (.bool (isP jK _))=_;rw[hWT],hh.2⟩
 have H2:Hid (∀ w1,Rs g c ts w1 b o (.ok () L)→Calls Tryz.prog 44 #[.pointer (some ⟨b,0,none⟩),.string ⟨#[102,97,108,115,101]⟩] w1 fun e w'=>e=.returned (.bool false)∧Below w1.heap.size w1 w'):=YV fun w1 h1=>(rIs g c ts b o ju (.ok () L) w1 h1 (by decide)).mono fun e w' hh=>⟨by rw[hh.1];show Ending.returned (.bool (isP ju _))=_;rw[hWF],hh.2⟩
 have H3:Hid (∀ w1,Rs g c ts w1 b o (.ok () L)→Calls Tryz.prog 44 #[.pointer (some ⟨b,0,none⟩),.string ⟨#[40]⟩] w1 fun e w'=>e=.returned (.bool false)∧Below w1.heap.size w1 w'):=YV fun w1 h1=>(rIs g c ts b o [40] (.ok () L) w1 h1 (by decide)).mono fun e w' hh=>⟨by rw[hh.1];show Ending.returned (.bool (isP [40] _))=_;rw[hW4],hh.2⟩
 have H4:Hid (∀ w1,Rs g c ts w1 b o (.ok () L.tail)→Calls Tryz.prog 44 #[.pointer (some ⟨b,0,none⟩),.string ⟨#[40]⟩] w1 fun e w'=>e=.returned (.bool true)∧Below w1.heap.size w1 w'):=YV fun w1 h1=>(rIs g c ts b o [40] (.ok () L.tail) w1 h1 (by decide)).mono fun e w' hh=>⟨by rw[hh.1];show Ending.returned (.bool (isP [40] _))=_;rw[hW3],hh.2⟩
 have hK3:¬ K=3:=by rw[hK,hk1];decide
 have hwl:WFt L.tail∧L.tail.length<L.length:=by rw[hL0];exact⟨hwt,by simp⟩
 have HNA:Hid (∀ w1,Rs g c ts w1 b o (.ok () L)→Calls Tryz.prog 84 #[.pointer (some ⟨b,0,none⟩),.int .i64 0] w1 (RRes g c ts b o w1 (fun (x:T) v _=>v=.string ⟨x.toArray⟩) (.ok (hdT L) L.tail))):=YV fun w1 h1=>by
  have e:zh 0 L=.ok (hdT L) L.tail:=by unfold zh;rw[if_pos hk1,if_neg (by omega)]
  rw[← e];exact u7 g c ts b o 0 (.ok () L) w1 h1 (by omega)
 have HEN:Hid (∀ w1,Rs g c ts w1 b o (.ok () L.tail)→_):=YV fun w1 h1=>qg g c ts b o (.ok () L.tail) w1 h1
 have ht:=zI hwl.1 hW3 (by decide)
 obtain⟨f1,rfl⟩:∃ f',f=f'+1:=⟨f - 1,by omega⟩
 obtain⟨σ1,hσ1⟩:∃ σ1,σ1=jP o (.ok () L.tail):=⟨_,rfl⟩
 obtain⟨o1,ho1⟩:∃ o1,o1=more o:=⟨_,rfl⟩
 obtain⟨RM,hRM⟩:∃ RM,RM=(jN σ1).bind fun _ L=>if isP [41] L=true then zU f1 [] L o1 else (zn f1 L o1).bind fun x L=>zU f1 [x] L o1:=⟨_,rfl⟩
 have HCE:Hid (∀ acc,(∀ y L,RM=.ok y L→acc=y)→R.unit=(RM.unit.bind fun _ L=>ze [41] L)∧∀ v L',R=.ok v L'→X.mk 6 0 0 (hdT L) acc=v):=YV fun acc ha=>by
  have e:R=(RM.bind fun ks L=>(ze [41] L).bind fun _ L=>Pr.ok ks L).bind fun ks L'=>Pr.ok (X.mk 6 0 0 (hdT L) ks) L':=by
   rw[hR,zy,uF (o:=o) (fun o L=>(if isP [41] L=true then zU f1 [] L o else (zn f1 L o).bind fun x L=>zU f1 [x] L o).bind fun ks L=>(ze [41] L).bind fun _ L=>Pr.ok ks L),hRM,← hσ1,← ho1]
   cases jN σ1 <;> rfl
  rw[e]
  exact call_eq ha
 have HBAD:Hid (400≤o→σ1=.bad 5 (hdF L.tail)∧RM=.bad 5 (hdF L.tail)):=YV fun h4=>by
  have e1:σ1=.bad 5 (hdF L.tail):=by rw[hσ1];show (if 400≤o then (zC 5 L.tail:Pr Unit) else .ok () L.tail)=_;rw[if_pos h4];rfl
  exact⟨e1,by rw[hRM,e1];rfl⟩
 have HDE:Hid (∀ M,R.unit=.ok () M→o<400):=YV fun M e=>by
  by_cases h4:400≤o
  ·rw[hR,zy] at e
   unfold ji at e
   rw[if_pos h4] at e
   cases e
  ·omega
 have HOK:Hid (o<400→σ1=.ok () L.tail):=YV fun h4=>by
  rw[hσ1];show (if 400≤o then (zC 5 L.tail:Pr Unit) else .ok () L.tail)=_;rw[if_neg (by omega)]
 obtain⟨L2,hL2⟩:∃ L2,L2=L.tail.tail:=⟨_,rfl⟩
 have HIN:Hid (o<400→RM=if isP [41] L2=true then zU f1 [] L2 o1 else (zn f1 L2 o1).bind fun x L=>zU f1 [x] L o1):=YV fun h4=>by
  rw[hRM,HOK.out h4,hL2];rfl
 have HW:Hid (∀ M,σ1=.ok () M→WFt M.tail):=YV fun M e=>by
  rw[hσ1] at e
  obtain⟨_,h2⟩:=ue e
  injection h2 with _ h2
  rw[← h2];exact ht.1
 have HL2:Hid (WFt L2∧16 * L2.length+14≤f1∧16 * L2.length+1≤f1):=YV (by rw[hL2];exact⟨ht.1,by have:=ht.2;have:=hwl.2;omega,by have:=ht.2;have:=hwl.2;omega⟩)
 have HP2:Hid (∀ w1,o<400→Rs g c ts w1 b o1 (jN σ1)→Rs g c ts w1 b o1 (.ok () L2)):=YV fun w1 h4 h1=>by
  rw[HOK.out h4] at h1;rw[hL2];exact h1
 have HIH:=YV ih
 have HO1:=YV ho1
 rw[← ho1,← hσ1] at HEN
 clear hR hK hwf hN hY hF0 hW3 hWT hWF hW4 ht hσ1 ho1 ih hf hRM hL2 hL0 hgt hwt hnm hnk hwl
 clear h hv hz0
 go_enter Tryz.func186,Tryz.ntmps186
 go_upto_region 1 with fail
 rw[← hv0,← hq]
 clear hv0 hq
 go_upto_region 2 with (go_at_call 43;refine(HN0.out _ HS0.out).mono ?_;rintro e w1 ⟨rfl,hb⟩;have HS1:Hid (Rs g c ts (w1.alloc (.cells #[.int .i64 K,.string Y,.int .i64 N,.int .i64 F0] 113)) b o (.ok () L)):=YV ((HS0.out.later hb).later ((Below.refl _ _).alloc (Nat.le_refl _) _));have HG1:Hid (v0.grownBy (w1.alloc (.cells #[.int .i64 K,.string Y,.int .i64 N,.int .i64 F0] 113)) (some b)):=YV (zi (zb hb b) _);have HT1:Hid (Bx b v0 w1.heap.size 113 #[.int .i64 K,.string Y,.int .i64 N,.int .i64 F0] (w1.alloc (.cells #[.int .i64 K,.string Y,.int .i64 N,.int .i64 F0] 113))):=YV ⟨Row.made _ _ _,hb.size,hbv⟩;clear hb HN0)
 generalize w1.alloc (.cells #[.int .i64 K,.string Y,.int .i64 N,.int .i64 F0] 113)=v1 at HS1 HG1 HT1 ⊢
 obtain⟨m,hm⟩:∃ m,m=w1.heap.size:=⟨_,rfl⟩
 rw[← hm] at HT1 ⊢
 clear hm HS0
 have d0:=HT1.out.row.cell 0
 have d1:=HT1.out.row.cell 1
 have d2:=HT1.out.row.cell 2
 have dz:=HT1.out.row.lt
 simp at d0 d1 d2
 obtain⟨nm,hnmm⟩:∃ nm,nm=hdT L:=⟨_,rfl⟩
 rw[← hnmm] at HNA HCE
 clear hnmm hk1
 obtain⟨i0,hi0,hz00,hz01,hz02⟩:=info_parts xd
 have HI0:=YV hi0
 have HI1:=YV hz00
 have HI2:=YV hz01
 have HI3:=YV hz02
 clear hi0 hz00 hz01 hz02
 go_upto_region 21 with (first|(go_at_call 44;refine(H1.out _ HS1.out).mono ?_;rintro e w2 ⟨rfl,hb⟩;have HS2:=YV (HS1.out.later hb);have HG2:=YV (za HG1.out (zb hb b));have HT2:=YV (HT1.out.below hb);clear hb H1)|(go_at_call 44;refine(H2.out _ HS2.out).mono ?_;rintro e w3 ⟨rfl,hb⟩;have HS3:=YV (HS2.out.later hb);have HG3:=YV (za HG2.out (zb hb b));have HT3:=YV (HT2.out.below hb);clear hb H2)|(go_at_call 44;refine(H3.out _ HS3.out).mono ?_;rintro e w4 ⟨rfl,hb⟩;have HS4:=YV (HS3.out.later hb);have HG4:=YV (za HG3.out (zb hb b));have HT4:=YV (HT3.out.below hb);clear hb H3)|(go_at_call 84;refine(HNA.out _ HS4.out).mono ?_;rintro e w5 ⟨x,v,rfl,hv,g1,g2,g3⟩;obtain rfl:v=.string ⟨x.toArray⟩:=hv;obtain rfl:=g3 _ _ rfl;have HS5:Hid (Rs g c ts (w5.alloc (.cells (s5 x) 52)) b o (.ok () L.tail)):=YV (g2.later ((Below.refl _ _).alloc (Nat.le_refl _) _));have HG5:Hid (v0.grownBy (w5.alloc (.cells (s5 x) 52)) (some b)):=YV (zi (za HG4.out g1) _);have HE5:Hid (Bx b v0 w5.heap.size 52 (s5 x) (w5.alloc (.cells (s5 x) 52))):=YV ⟨Row.made _ _ _,by have:=HG4.out.size;have:=g1.size;omega,hbv⟩;clear g1 g2 g3 HNA))
 clear d0 d1 d2 dz
 unfold s5 at HE5 HS5 HG5
 generalize w5.alloc (.cells #[.int .i64 2,.int .i64 0,.int .i64 0,.string ⟨x.toArray⟩,.slice none 0 0] 52)=v5 at HS5 HG5 HE5 ⊢
 obtain⟨p,hp⟩:∃ m,m=w5.heap.size:=⟨_,rfl⟩
 rw[← hp] at HE5 ⊢
 clear hp
 have hvp:=HE5.out.lo
 go_upto_region 23 with (go_at_call 44;refine(H4.out _ HS5.out).mono ?_;rintro e w6 ⟨rfl,hb⟩;have HS6:=YV (HS5.out.later hb);have HG6:=YV (za HG5.out (zb hb b));have HE6:=YV (HE5.out.below hb);clear hb H4)
 have e0:=HE6.out.row.cell 0
 have g0:=HE6.out.row.free 0
 have ez:=HE6.out.row.lt
 simp at e0
 go_upto_region 24 with fail
 have hgs:w6.grownBy (w6.setCell ⟨p,0,none⟩ (.int .i64 6)) (some p):=zf (zd w6 p) 0 _
 have HG7:Hid (v0.grownBy (w6.setCell ⟨p,0,none⟩ (.int .i64 6)) (some b)):=YV (jb HG6.out hgs (fun k e=>by injection e with e;omega))
 have HS7:=YV (HS6.out.grown hgs (fun k e=>by injection e with e;omega))
 have HE7:Hid (Bx b v0 p 52 #[.int .i64 6,.int .i64 0,.int .i64 0,.string ⟨x.toArray⟩,.slice none 0 0] (w6.setCell ⟨p,0,none⟩ (.int .i64 6))):=YV ⟨by simpa using HE6.out.row.set 0 (.int .i64 6),hvp,hbv⟩
 clear hgs e0 g0 ez
 generalize w6.setCell ⟨p,0,none⟩ (.int .i64 6)=v7 at HG7 HS7 HE7 ⊢
 go_upto_region 25 with (go_at_call 145;refine(HEN.out _ HS7.out).mono ?_;rintro e w8 ⟨rfl,g1,g2⟩;have HS8:=YV g2;have HG8:=YV (za HG7.out g1);have HE8:=YV (HE7.out.grow g1);clear g1 g2 HEN)
 obtain⟨i8,op8,k8,a8,hr8,ha8⟩:=HS8.out.row_
 have HRW8:=YV hr8
 have HA8:=YV ha8
 have c1:=hr8.cell 1
 have f1:=hr8.free 1
 simp[zg] at c1
 clear hr8 ha8
 go_upto_region 26 with fail
 have HS9:Hid (Rs g c ts (w8.setCell ⟨b,1,none⟩ (.int .i64 (wrap64 (i8+1)))) b o1 (jN σ1)):=YV (HS8.out.inc HRW8.out HA8.out HW.out)
 have hgs:w8.grownBy (w8.setCell ⟨b,1,none⟩ (.int .i64 (wrap64 (i8+1)))) (some b):=zf (zd w8 b) 1 _
 have HG9:=YV (za HG8.out hgs)
 have HE9:=YV (HE8.out.grow hgs)
 clear hgs c1 f1 HRW8 HA8
 generalize w8.setCell ⟨b,1,none⟩ (.int .i64 (wrap64 (i8+1)))=v9 at HS9 HG9 HE9 ⊢
 obtain⟨B2,hB2⟩:∃ B2,B2=v9.heap.size:=⟨_,rfl⟩
 have hpB:p<B2:=by rw[hB2];exact HE9.out.row.lt
 have hBx:B2≤v9.heap.size:=by omega
 have HPT:Hid (Row v9 p 52 #[.int .i64 6,.int .i64 0,.int .i64 0,.string ⟨x.toArray⟩,.slice none ([]:List X).length 0]):=YV HE9.out.row
 have HOT:Hid (OwnW RX 52 5 B2 ([]:List X) (.slice none ([]:List X).length 0) v9):=YV OwnW.nil
 have HKT:Hid (Kp2 B2 b p v9 v9):=YV (Kp2.refl _ _ _ _)
 have HGT:=HG9
 clear hB2
 by_cases h4:400≤o
 ·obtain⟨e1,e2⟩:=HBAD.out h4
  have hs9:=HS9.out
  rw[e1] at hs9
  have HST:Hid (Rs g c ts v9 b o1 (.bad 5 (hdF L.tail))):=YV hs9
  obtain⟨i4,op4,k4,a4,hr4,ha4⟩:=hs9.row_
  obtain⟨rfl,rfl⟩:=ha4
  have c34:=hr4.cell 3
  simp[zg] at c34
  have HDT:Hid (RM.unit=(.bad 5 (hdF L.tail):Pr Unit)∧∀ y L,RM=.ok y L→([]:List X)=y):=YV ⟨by rw[e2];rfl,fun y L e=>by rw[e2] at e;cases e⟩
  clear hr4 hs9 e1 e2
  go_upto_region 33 with fail
  clear c34
  have HMU:Hid (∀ w1,Rs g c ts w1 b o1 (.bad 5 (hdF L.tail):Pr Unit)→_):=YV fun w1 h1=>jJ g c ts b o1 [41] (.bad 5 (hdF L.tail):Pr Unit) w1 h1 (by decide)
  have HFR:=YV (HCE.out ([]:List X) HDT.out.2)
  go_upto_region 34 with (go_at_call 83;refine(HMU.out _ HST.out).mono ?_;rintro e w10 ⟨_,v,rfl,hv,g1,g2,_⟩;obtain rfl:v=.tuple #[]:=hv;have HS10:Hid (Rs g c ts w10 b o1 ((.bad 5 (hdF L.tail):Pr Unit).bind fun _ L=>ze [41] L)):=YV (by rw[Pr.unit_id] at g2;exact g2);have HG10:=YV (za HGT.out g1);have HP10:=YV (HPT.out.grown g1 (fun e=>by injection e with e;omega));have HO10:=YV (HOT.out.keep zX g1 (fun q e=>by injection e with e;omega));have HK10:=YV (HKT.out.step g1 hBx (fun q e=>by injection e with e;exact .inl e.symm));clear g1 g2 HMU)
  obtain⟨i10,op10,k10,a10,hr10,ha10⟩:=HS10.out.row_
  have HRW10:=YV hr10
  have HA10:=YV ha10
  have c1:=hr10.cell 2
  have f1:=hr10.free 2
  simp[zg] at c1
  clear hr10 ha10
  go_upto_region 35 with fail
  have HS11:Hid (Rs g c ts (w10.setCell ⟨b,2,none⟩ (.int .i64 (wrap64 (op10 - 1)))) b o ((.bad 5 (hdF L.tail):Pr Unit).bind fun _ L=>ze [41] L)):=YV (by
   have h5:=HS10.out
   have ha:=HA10.out
   rw[HO1.out] at h5 ha
   exact h5.dec HRW10.out ha ho4 (fun M e=>HDE.out M (by rw[HFR.out.1,HDT.out.1];exact e)))
  have hgs:w10.grownBy (w10.setCell ⟨b,2,none⟩ (.int .i64 (wrap64 (op10 - 1)))) (some b):=zf (zd w10 b) 2 _
  have HG11:=YV (za HG10.out hgs)
  have HP11:=YV (HP10.out.grown hgs (fun e=>by injection e with e;omega))
  have HO11:=YV (HO10.out.keep zX hgs (fun q e=>by injection e with e;omega))
  have HK11:=YV (HK10.out.step hgs hBx (fun q e=>by injection e with e;exact .inl e.symm))
  clear hgs c1 f1 HRW10 HA10
  generalize w10.setCell ⟨b,2,none⟩ (.int .i64 (wrap64 (op10 - 1)))=v11 at HS11 HG11 HP11 HO11 HK11 ⊢
  have e0:=HP11.out.cell 0
  have e1:=HP11.out.cell 1
  have e2:=HP11.out.cell 2
  have e3:=HP11.out.cell 3
  have e4:=HP11.out.cell 4
  have ez:=HP11.out.lt
  simp at e0 e1 e2 e3 e4
  have HROW:Row v11 q 52 z5:=(HK11.out.block q (by omega) hqb (by omega)).trans (HR.out.grown HG9.out (fun e=>by injection e with e;omega))
  go_wp2_with (refine wpList_store_row (o:=⟨none,Op.store _ _ _,_,_,_,_⟩) rfl _ _ _ rfl q (x5 (.mk 6 0 0 x ([]:List X)) none 0) rfl rfl _ _ HROW zo rfl (jf _ _ _) ?_)
  obtain⟨A8,c8,h8,hks⟩:=HO11.out.ks (lo:=q+1) (by omega)
  injection h8 with h81 h82 h83
  subst h81 h83
  obtain⟨t1,t2⟩:=HFIN.out _ (.mk 6 0 0 x ([]:List X)) _ _ _ HG11.out HROW hks (by rw[HFR.out.1,HDT.out.1];exact HS11.out) HFR.out.2
  exact bodyPost_ret (results_cell_row rfl _ _ q _ _ _ _ rfl t1 Tryz.underlying52 rfl zo) rfl t2
 ·have hs9:=HP2.out v9 (by omega) HS9.out
  have HS9':=YV hs9
  obtain⟨i4,op4,k4,a4,hr4,ha4⟩:=hs9.row_
  obtain⟨rfl,rfl,_⟩:=ha4
  have c34:=hr4.cell 3
  simp[zg] at c34
  clear hr4
  have hin:=HIN.out (by omega)
  by_cases hp41:isP [41] L2=true
  ·rw[if_pos hp41] at hin
   have H5:Hid (∀ w1,Rs g c ts w1 b o1 (.ok () L2)→Calls Tryz.prog 44 #[.pointer (some ⟨b,0,none⟩),.string ⟨#[41]⟩] w1 fun e w'=>e=.returned (.bool true)∧Below w1.heap.size w1 w'):=YV fun w1 h1=>(rIs g c ts b o1 [41] (.ok () L2) w1 h1 (by decide)).mono fun e w' hh=>⟨by rw[hh.1];show Ending.returned (.bool (isP [41] _))=_;rw[hp41],hh.2⟩
   have HST:=HS9'
   have HDT:Hid (RM.unit=(.ok () L2:Pr Unit)∧∀ y L,RM=.ok y L→([]:List X)=y):=YV (by
    have hm:un RM o1 f1 [] (.ok () L2):=⟨hin,fun M e=>by injection e with _ e;rw[← e];exact⟨HL2.out.2.2,by simp⟩,by simp⟩
    refine hm.done ?_
    have e:hdT L2=[41]:=of_decide_eq_true hp41
    show isP [44] L2=false
    unfold isP;rw[e];decide)
   clear hs9 hin hp41
   go_upto_region 33 with (go_at_call 44;refine(H5.out _ HST.out).mono ?_;rintro e w91 ⟨rfl,hb⟩;replace HST:=YV (HST.out.later hb);replace HGT:=YV (za HGT.out (zb hb b));replace HPT:=YV (HPT.out.below hb HPT.out.lt);replace HOT:=YV (HOT.out.keep zX (zc hb none) (fun q e=>by cases e));replace HKT:=YV (HKT.out.step (zc hb none) hBx (fun q e=>by cases e));clear hb H5)
   clear c34
   have HMU:Hid (∀ w1,Rs g c ts w1 b o1 (.ok () L2:Pr Unit)→_):=YV fun w1 h1=>jJ g c ts b o1 [41] (.ok () L2:Pr Unit) w1 h1 (by decide)
   have HFR:=YV (HCE.out ([]:List X) HDT.out.2)
   go_upto_region 34 with (go_at_call 83;refine(HMU.out _ HST.out).mono ?_;rintro e w10 ⟨_,v,rfl,hv,g1,g2,_⟩;obtain rfl:v=.tuple #[]:=hv;have HS10:Hid (Rs g c ts w10 b o1 ((.ok () L2:Pr Unit).bind fun _ L=>ze [41] L)):=YV (by rw[Pr.unit_id] at g2;exact g2);have HG10:=YV (za HGT.out g1);have HP10:=YV (HPT.out.grown g1 (fun e=>by injection e with e;omega));have HO10:=YV (HOT.out.keep zX g1 (fun q e=>by injection e with e;omega));have HK10:=YV (HKT.out.step g1 hBx (fun q e=>by injection e with e;exact .inl e.symm));clear g1 g2 HMU)
   obtain⟨i10,op10,k10,a10,hr10,ha10⟩:=HS10.out.row_
   have HRW10:=YV hr10
   have HA10:=YV ha10
   have c1:=hr10.cell 2
   have f1:=hr10.free 2
   simp[zg] at c1
   clear hr10 ha10
   go_upto_region 35 with fail
   have HS11:Hid (Rs g c ts (w10.setCell ⟨b,2,none⟩ (.int .i64 (wrap64 (op10 - 1)))) b o ((.ok () L2:Pr Unit).bind fun _ L=>ze [41] L)):=YV (by
    have h5:=HS10.out
    have ha:=HA10.out
    rw[HO1.out] at h5 ha
    exact h5.dec HRW10.out ha ho4 (fun M e=>HDE.out M (by rw[HFR.out.1,HDT.out.1];exact e)))
   have hgs:w10.grownBy (w10.setCell ⟨b,2,none⟩ (.int .i64 (wrap64 (op10 - 1)))) (some b):=zf (zd w10 b) 2 _
   have HG11:=YV (za HG10.out hgs)
   have HP11:=YV (HP10.out.grown hgs (fun e=>by injection e with e;omega))
   have HO11:=YV (HO10.out.keep zX hgs (fun q e=>by injection e with e;omega))
   have HK11:=YV (HK10.out.step hgs hBx (fun q e=>by injection e with e;exact .inl e.symm))
   clear hgs c1 f1 HRW10 HA10
   generalize w10.setCell ⟨b,2,none⟩ (.int .i64 (wrap64 (op10 - 1)))=v11 at HS11 HG11 HP11 HO11 HK11 ⊢
   have e0:=HP11.out.cell 0
   have e1:=HP11.out.cell 1
   have e2:=HP11.out.cell 2
   have e3:=HP11.out.cell 3
   have e4:=HP11.out.cell 4
   have ez:=HP11.out.lt
   simp at e0 e1 e2 e3 e4
   have HROW:Row v11 q 52 z5:=(HK11.out.block q (by omega) hqb (by omega)).trans (HR.out.grown HG9.out (fun e=>by injection e with e;omega))
   go_wp2_with (refine wpList_store_row (o:=⟨none,Op.store _ _ _,_,_,_,_⟩) rfl _ _ _ rfl q (x5 (.mk 6 0 0 x ([]:List X)) none 0) rfl rfl _ _ HROW zo rfl (jf _ _ _) ?_)
   obtain⟨A8,c8,h8,hks⟩:=HO11.out.ks (lo:=q+1) (by omega)
   injection h8 with h81 h82 h83
   subst h81 h83
   obtain⟨t1,t2⟩:=HFIN.out _ (.mk 6 0 0 x ([]:List X)) _ _ _ HG11.out HROW hks (by rw[HFR.out.1,HDT.out.1];exact HS11.out) HFR.out.2
   exact bodyPost_ret (results_cell_row rfl _ _ q _ _ _ _ rfl t1 Tryz.underlying52 rfl zo) rfl t2
  ·rw[if_neg hp41] at hin
   have hp41':isP [41] L2=false:=by simpa using hp41
   have H5:Hid (∀ w1,Rs g c ts w1 b o1 (.ok () L2)→Calls Tryz.prog 44 #[.pointer (some ⟨b,0,none⟩),.string ⟨#[41]⟩] w1 fun e w'=>e=.returned (.bool false)∧Below w1.heap.size w1 w'):=YV fun w1 h1=>(rIs g c ts b o1 [41] (.ok () L2) w1 h1 (by decide)).mono fun e w' hh=>⟨by rw[hh.1];show Ending.returned (.bool (isP [41] _))=_;rw[hp41'],hh.2⟩
   obtain⟨r1,hr1⟩:∃ r1,r1=zn f1 L2 o1:=⟨_,rfl⟩
   rw[← hr1] at hin
   have HXP:Hid (∀ w1,Rs g c ts w1 b o1 (.ok () L2)→Calls Tryz.prog 116 #[.pointer (some ⟨b,0,none⟩)] w1 (RRes g c ts b o1 w1 (XV w1.heap.size) r1)):=YV fun w1 h1=>by rw[hr1];exact(HIH.out f1 (by omega)).expr o1 L2 w1 HL2.out.2.1 h1
   have HM1:Hid (∀ x1,(∀ y L,r1=.ok y L→x1=y)→un RM o1 f1 [x1] r1.unit):=YV fun x1 hx=>⟨by rw[hin];exact Pr.seq hx fun x L=>zU f1 [x] L o1,fun M e=>by
    cases hh:r1 with
    | bad k a=>rw[hh] at e;cases e
    | ok y K=>
     rw[hh] at e
     obtain rfl:K=M:=by injection e
     have:=((jD f1).expr L2 o1 HL2.out.1 y K (by rw[← hr1];exact hh)).2
     exact⟨by have:=HL2.out.2.2;omega,by simp⟩,by simp⟩
   clear hs9 hin hp41 hp41' hr1
   go_upto_region 27 with (go_at_call 44;refine(H5.out _ HS9'.out).mono ?_;rintro e w91 ⟨rfl,hb⟩;have HS10:=YV (HS9'.out.later hb);replace HGT:=YV (za HGT.out (zb hb b));replace HPT:=YV (HPT.out.below hb HPT.out.lt);replace HOT:=YV (HOT.out.keep zX (zc hb none) (fun q e=>by cases e));replace HKT:=YV (HKT.out.step (zc hb none) hBx (fun q e=>by cases e));clear hb H5)
   clear c34
   obtain⟨acc0,hacc0⟩:∃ l:List X,l=[]:=⟨_,rfl⟩
   replace HPT:Hid (Row w91 p 52 #[.int .i64 6,.int .i64 0,.int .i64 0,.string ⟨x.toArray⟩,.slice none acc0.length 0]):=YV (by rw[hacc0];exact HPT.out)
   replace HOT:Hid (OwnW RX 52 5 B2 acc0 (.slice none acc0.length 0) w91):=YV (by rw[hacc0];exact HOT.out)
   have hal0:acc0.length≤1000:=by rw[hacc0];simp
   have HAC:=YV hacc0
   clear hacc0
   have HV5:Hid (∀ q,(Value.slice none acc0.length 0).ownBlock=some q→B2≤q∧q<w91.heap.size):=YV (HOT.out.lt)
   have HRA:Hid (RA g c ts b v0 o1 (.ok () L2) w91):=YV ⟨HS10.out,HGT.out⟩
   refine Tame.wp_region_tamg (L:=Tame.Later) (M:=ME b p (Value.slice none acc0.length 0)) (gs:=jr g c ts b o1 p B2 (.ok () L2) v0 v9 52 #[.int .i64 6,.int .i64 0,.int .i64 0,.string ⟨x.toArray⟩,.slice none acc0.length 0] RX 52 5 acc0 (Value.slice none acc0.length 0)) [3,5,7] (by kernel_rfl) (by kernel_rfl) Tame.Later.refl (fun _ w=>World.grownBy.refl w _) (jk zX HRA.out HPT.out HOT.out HKT.out hbv hvp hpB hBx) ?_
   repeat
    ((first
     |(refine Tame.walk3_known (o:=⟨some 103,_,_,_,_,_⟩) (by kernel_rfl) (fun _=>rfl) ?_;apply Exists.intro;refine⟨fun vals w2 hG hd=>?_,?_⟩;(focus(have r:=(hG 1 _ rfl (by kernel_rfl):Row w2 p 52 #[.int .i64 6,.int .i64 0,.int .i64 0,.string ⟨x.toArray⟩,.slice none acc0.length 0]);have u4:=r.cell 4;clear hd hG r;simp at u4;go_simp;exact Tame.Is.mk (Tame.Later.refl _))))
     |(refine Tame.walk3_write (o:=⟨some 105,_,_,_,_,_⟩) (AftC g c ts b v0 o1 r1.unit (VX B2 (Value.slice none acc0.length 0).ownBlock) (fun y=>∀ z L,r1=.ok z L→y=z)) (none) ([5,7]) (fun _=>rfl) (by kernel_rfl) (by kernel_rfl) (fun u a c hl h=>AftC.later ua h hl) (fun i _ hj u a c hs h=>AftC.turn ua hj hs h (fun q hq=>(HV5.out q hq).1) hbv hvp hpB) (fun vals w2 hG hd=>?_) ?_;(focus(have ha2:=(hG 0 _ rfl (by kernel_rfl):RA g c ts b v0 o1 (.ok () L2) w2);have hk2:=(hG 3 _ rfl (by kernel_rfl):Kp2 B2 b p v9 w2);have ho2:=(hG 2 _ rfl (by kernel_rfl):OwnW RX 52 5 B2 acc0 (Value.slice none acc0.length 0) w2);have HC:=YV (HXP.out w2 ha2.1);have HA9:=YV ha2;have hk3:=hk2.size;have HO2:=YV ho2;clear hd hG ha2 hk2 ho2;go_simp;refine HC.out.mono ?_;rintro e w' ⟨y,v,rfl,⟨E,d,rfl,hk⟩,g1,g2,g3⟩;exact⟨_,rfl,Tame.Leaves.mk g1 ⟨HA9.out.step g2 g1,y,g3,⟨E,d,rfl,hk.move (fun q hq=>⟨⟨by have:=hq.1;omega,hq.2,fun e=>by have:=(HO2.out.lt q e.symm).2;have:=hq.1;omega⟩,rfl⟩)⟩⟩⟩)))
     |(refine Tame.walk3_some (o:=⟨some 106,_,_,_,_,_⟩) (AftR (WX B2 (Value.slice none acc0.length 0).ownBlock) (fun y=>∀ z L,r1=.ok z L→y=z)) (none) ([3,5,7]) (by kernel_rfl) (fun _=>rfl) (by kernel_rfl) (fun u a c hl h=>AftR.later (v:=(Value.slice none acc0.length 0)) vZ h hl) (fun i _ hj u a c hs h=>AftR.turn vZ hj hs h (by omega) hpB) (fun vals w2 hG hd=>?_) ?_;(focus(have h1:=(hd 3 _ rfl (by kernel_rfl) rfl:AftC g c ts b v0 o1 r1.unit (VX B2 (Value.slice none acc0.length 0).ownBlock) (fun y=>∀ z L,r1=.ok z L→y=z) (vals 3) w2);have hk2:=(hG 3 _ rfl (by kernel_rfl):Kp2 B2 b p v9 w2);have hk3:=hk2.size;have ho2:=(hG 2 _ rfl (by kernel_rfl):OwnW RX 52 5 B2 acc0 (Value.slice none acc0.length 0) w2);have HO2:=YV ho2;clear hG hd hk2 ho2;obtain⟨ha2,y,hyy,E,d,hv1,k1⟩:=h1;have HK1:=YV k1;clear k1;clear ha2;go_simp;exact Tame.Has.mk ((Below.refl _ _).alloc (Nat.le_refl _) _) ⟨y,hyy,qZ HK1.out (by omega) (fun e=>by have:=(HO2.out.lt _ e.symm).2;omega)⟩)))
     |(refine Tame.walk3_write (o:=⟨some 107,_,_,_,_,_⟩) (AftS RX 52 5 B2 acc0 (fun y=>∀ z L,r1=.ok z L→y=z)) (none) ([7]) (fun _=>rfl) (by kernel_rfl) (by kernel_rfl) (fun u a c hl h=>AftS.later zX h hl) (fun i _ hj u a c hs h=>by obtain rfl:=zZ hj;exact AftS.other (p:=p) zX h hs hpB) (fun vals w2 hG hd=>?_) ?_;(focus(have hk2:=(hG 3 _ rfl (by kernel_rfl):Kp2 B2 b p v9 w2);have hk3:=hk2.size;have h1:=(hd 4 _ rfl (by kernel_rfl) rfl:AftR (WX B2 (Value.slice none acc0.length 0).ownBlock) (fun y=>∀ z L,r1=.ok z L→y=z) (vals 4) w2);have h2:=(hG 2 _ rfl (by kernel_rfl):OwnW RX 52 5 B2 acc0 (Value.slice none acc0.length 0) w2);clear hG hd hk2;obtain⟨y,hyy,g1,E,d,hv1,hr1,k1,k2,k3⟩:=h1;obtain⟨cs,ho,hx⟩:=h2;exact zK (.tmp 103) (.tmp 106) _ rfl B2 52 i0 _ 5 64 Tryz.underlying50 HI0.out HI1.out HI2.out HI3.out rfl (by omega) (by omega) (Value.slice none acc0.length 0) _ cs rfl ho g1 1 52 (x5 y E d).toList hv1 rfl (by simpa using hr1) (zX.one (w:=w2) (S:=Sb B2 (Value.slice none acc0.length 0).ownBlock w2) (x:=y) ⟨E,d,rfl,k1⟩) (by omega) (by omega) (fun v' w' ho' hgr hat=>⟨hgr,y,hyy,OwnW.snoc zX hx ho' hgr hat ⟨E,d,rfl,k1⟩⟩))))
     |(refine Tame.walk3_lays (o:=⟨none,Op.store _ _ _,_,_,_,_⟩) (fun vals w=>Row w p 52 #[.int .i64 6,.int .i64 0,.int .i64 0,.string ⟨x.toArray⟩,vals 5]) none ([]) ([5]) (fun _=>rfl) (by kernel_rfl) (by kernel_rfl) (by kernel_rfl) (fun vals vals' w hh h=>by rw[← hh 5 (by decide)];exact h) (fun vals w w' hl h=>Row.below h hl (Row.lt h)) (fun j hj hk=>by cases hk) (fun vals w2 hG hd=>?_) ?_;(focus(have h1:=(hd 5 _ rfl (by kernel_rfl) (by kernel_rfl):AftS RX 52 5 B2 acc0 (fun y=>∀ z L,r1=.ok z L→y=z) (vals 5) w2);have hr:=(hG 1 _ rfl (by kernel_rfl):Row w2 p 52 #[.int .i64 6,.int .i64 0,.int .i64 0,.string ⟨x.toArray⟩,.slice none acc0.length 0]);clear hG hd;obtain⟨E1,d1,hv1⟩:=h1.slice;have HR1:=YV hr;have c4:=hr.cell 4;have f4:=hr.free 4;simp at c4;clear hr h1;go_simp;exact⟨zf (zd _ p) 4 _,by first | exact HR1.out.set 4 (.slice E1 (acc0.length+1) d1)|(rw[hv1];exact HR1.out.set 4 (.slice E1 (acc0.length+1) d1))⟩)))
     |(refine Tame.walk3_known (by kernel_rfl) (fun _=>rfl) ?_;apply Exists.intro;refine⟨fun vals w2 hG hd=>?_,?_⟩;(focus(go_simp;first | exact Tame.Is.mk (Tame.Later.refl _)|(rw[if_neg];(focus exact Tame.Is.mk (Tame.Later.refl _));omega)))))
     simp only[Act.put,List.setIfInBounds_toArray,List.set_cons_zero,List.set_cons_succ,List.nil_append,List.cons_append,List.length_cons,List.length_nil,Nat.zero_add,Nat.reduceAdd])
   refine Tame.walk3_end fun vals w5 hG hts=>?_
   have HF0:Hid (Kp2 B2 b p v9 w5):=YV (hG 3 _ rfl (by kernel_rfl))
   have HF3:Hid (RA g c ts b v0 o1 r1.unit w5):=YV ((hts 3 _ rfl rfl:AftC g c ts b v0 o1 r1.unit (VX B2 (Value.slice none acc0.length 0).ownBlock) (fun y=>∀ z L,r1=.ok z L→y=z) (vals 3) w5).1)
   have f5:AftS RX 52 5 B2 acc0 (fun y=>∀ z L,r1=.ok z L→y=z) (vals 5) w5:=hts 5 _ rfl rfl
   have f7:Row w5 p 52 #[.int .i64 6,.int .i64 0,.int .i64 0,.string ⟨x.toArray⟩,vals 5]:=hts 7 _ rfl rfl
   obtain⟨y,hyy,f6⟩:=f5
   obtain⟨A7,c7,hv7,_⟩:=f6.slice
   rw[hv7] at f6 f7
   have HYY:=YV hyy
   have HF5:=YV f6
   have HF7:=YV f7
   clear f6 f7 hts hG hv7 hyy
   have HMA:=YV (HM1.out y HYY.out)
   have HA1:Hid (acc0++[y]=[y]):=YV (by rw[HAC.out];rfl)
   clear HM1 HXP HV5 HRA HOT HPT HKT
   go_wp2_with fail
   go_loopg [109] f1 (fun g' _ wr=>∃ (acc:List X) (Av:Option Addr) (cv:Nat) (σ:Pr Unit),un RM o1 g' acc σ∧g'≤f1∧RA g c ts b v0 o1 σ wr∧Row wr p 52 #[.int .i64 6,.int .i64 0,.int .i64 0,.string ⟨x.toArray⟩,.slice Av acc.length cv]∧OwnW RX 52 5 B2 acc (.slice Av acc.length cv) wr∧Kp2 B2 b p v9 wr)
   case atStart=>exact⟨acc0++[y],A7,c7,_,by rw[HA1.out];exact HMA.out,Nat.le_refl _,HF3.out,HF7.out,HF5.out,HF0.out⟩
   case round=>
    obtain⟨acc,Av,cv,σ,hma,hgf,hra,hrow,hown,hkp⟩:=hrel
    have HMA2:=YV hma
    replace HF3:=YV hra
    have HPT:=YV hrow
    have HOT:=YV hown
    have HKT:=YV hkp
    obtain⟨bl,hbl⟩:∃ bl,bl=isS [44] σ:=⟨_,rfl⟩
    have HIS:Hid (Calls Tryz.prog 44 #[.pointer (some ⟨b,0,none⟩),.string ⟨#[44]⟩] wr fun e w'=>e=.returned (.bool bl)∧Below wr.heap.size wr w'):=YV (by rw[hbl];exact rIs g c ts b o1 [44] σ wr hra.1 (by decide))
    cases bl with
    | false=>
     have HDT:=YV (hma.done hbl.symm)
     clear hma hra hrow hown hkp hbl
     go_upto_region 33 with (go_at_call 44;refine HIS.out.mono ?_;rintro e w92 ⟨rfl,hb⟩;have HST:=YV (HF3.out.1.later hb);have HGT:=YV (za HF3.out.2 (zb hb b));replace HPT:=YV (HPT.out.below hb HPT.out.lt);replace HOT:=YV (HOT.out.keep zX (zc hb none) (fun q e=>by cases e));replace HKT:=YV (HKT.out.step (zc hb none) hBx (fun q e=>by cases e));clear hb HIS)
     have HMU:Hid (∀ w1,Rs g c ts w1 b o1 σ→_):=YV fun w1 h1=>jJ g c ts b o1 [41] σ w1 h1 (by decide)
     have HFR:=YV (HCE.out acc HDT.out.2)
     go_upto_region 34 with (go_at_call 83;refine(HMU.out _ HST.out).mono ?_;rintro e w10 ⟨_,v,rfl,hv,g1,g2,_⟩;obtain rfl:v=.tuple #[]:=hv;have HS10:Hid (Rs g c ts w10 b o1 (σ.bind fun _ L=>ze [41] L)):=YV (by rw[Pr.unit_id] at g2;exact g2);have HG10:=YV (za HGT.out g1);have HP10:=YV (HPT.out.grown g1 (fun e=>by injection e with e;omega));have HO10:=YV (HOT.out.keep zX g1 (fun q e=>by injection e with e;omega));have HK10:=YV (HKT.out.step g1 hBx (fun q e=>by injection e with e;exact .inl e.symm));clear g1 g2 HMU)
     obtain⟨i10,op10,k10,a10,hr10,ha10⟩:=HS10.out.row_
     have HRW10:=YV hr10
     have HA10:=YV ha10
     have c1:=hr10.cell 2
     have f1:=hr10.free 2
     simp[zg] at c1
     clear hr10 ha10
     go_upto_region 35 with fail
     have HS11:Hid (Rs g c ts (w10.setCell ⟨b,2,none⟩ (.int .i64 (wrap64 (op10 - 1)))) b o (σ.bind fun _ L=>ze [41] L)):=YV (by
      have h5:=HS10.out
      have ha:=HA10.out
      rw[HO1.out] at h5 ha
      exact h5.dec HRW10.out ha ho4 (fun M e=>HDE.out M (by rw[HFR.out.1,HDT.out.1];exact e)))
     have hgs:w10.grownBy (w10.setCell ⟨b,2,none⟩ (.int .i64 (wrap64 (op10 - 1)))) (some b):=zf (zd w10 b) 2 _
     have HG11:=YV (za HG10.out hgs)
     have HP11:=YV (HP10.out.grown hgs (fun e=>by injection e with e;omega))
     have HO11:=YV (HO10.out.keep zX hgs (fun q e=>by injection e with e;omega))
     have HK11:=YV (HK10.out.step hgs hBx (fun q e=>by injection e with e;exact .inl e.symm))
     clear hgs c1 f1 HRW10 HA10
     generalize w10.setCell ⟨b,2,none⟩ (.int .i64 (wrap64 (op10 - 1)))=v11 at HS11 HG11 HP11 HO11 HK11 ⊢
     have e0:=HP11.out.cell 0
     have e1:=HP11.out.cell 1
     have e2:=HP11.out.cell 2
     have e3:=HP11.out.cell 3
     have e4:=HP11.out.cell 4
     have ez:=HP11.out.lt
     simp at e0 e1 e2 e3 e4
     have HROW:Row v11 q 52 z5:=(HK11.out.block q (by omega) hqb (by omega)).trans (HR.out.grown HG9.out (fun e=>by injection e with e;omega))
     go_wp2_with (refine wpList_store_row (o:=⟨none,Op.store _ _ _,_,_,_,_⟩) rfl _ _ _ rfl q (x5 (.mk 6 0 0 x acc) Av cv) rfl rfl _ _ HROW zo rfl (jf _ _ _) ?_)
     obtain⟨A8,c8,h8,hks⟩:=HO11.out.ks (lo:=q+1) (by omega)
     injection h8 with h81 h82 h83
     subst h81 h83
     obtain⟨t1,t2⟩:=HFIN.out _ (.mk 6 0 0 x acc) _ _ _ HG11.out HROW hks (by rw[HFR.out.1,HDT.out.1];exact HS11.out) HFR.out.2
     exact bodyPost_ret (results_cell_row rfl _ _ q _ _ _ _ rfl t1 Tryz.underlying52 rfl zo) rfl t2
    | true=>
     cases σ with
     | bad k a=>cases hbl
     | ok u Li=>
      have hp:isP [44] Li=true:=hbl.symm
      have hwi:WFt Li:=hra.1.good_
      have hti:=zI hwi hp (by decide)
      have hfi:=hma.fuel Li rfl
      obtain⟨fl,rfl⟩:∃ fl,gk=fl+1:=⟨gk - 1,by omega⟩
      have HNX:Hid (∀ y,(∀ z L',((vj acc.length Li.tail).bind fun _ L=>zn fl L o1)=.ok z L'→y=z)→un RM o1 fl (acc++[y]) ((vj acc.length Li.tail).bind fun _ L=>zn fl L o1).unit):=YV fun y hy=>hma.next hwi hp hy
      obtain⟨ri,hri⟩:∃ ri,ri=(vj acc.length Li.tail).bind fun _ L=>zn fl L o1:=⟨_,rfl⟩
      rw[← hri] at HNX
      have HXP:Hid (∀ w1,Rs g c ts w1 b o1 (vj acc.length Li.tail)→Calls Tryz.prog 116 #[.pointer (some ⟨b,0,none⟩)] w1 (RRes g c ts b o1 w1 (XV w1.heap.size) ri)):=YV fun w1 h1=>by
       rw[hri]
       refine xw (HIH.out fl (by omega)) (fun M e=>?_) h1
       unfold vj at e
       by_cases h1000:1000≤acc.length
       ·rw[if_pos h1000] at e;cases e
       ·rw[if_neg h1000] at e;injection e with _ e;rw[← e];have:=hti.2;omega
      have HWT:Hid (∀ M,(.ok () Li:Pr Unit)=.ok () M→WFt M.tail):=YV fun M e=>by injection e with _ e;rw[← e];exact hti.1
      have hac:acc.length≤1000:=hfi.2
      clear hma hra hrow hown hkp hbl hp hwi hti hfi hri
      go_upto_region 29 with (go_at_call 44;refine HIS.out.mono ?_;rintro e w92 ⟨rfl,hb⟩;have HS12:=YV (HF3.out.1.later hb);have HG12:=YV (za HF3.out.2 (zb hb b));replace HPT:=YV (HPT.out.below hb HPT.out.lt);replace HOT:=YV (HOT.out.keep zX (zc hb none) (fun q e=>by cases e));replace HKT:=YV (HKT.out.step (zc hb none) hBx (fun q e=>by cases e));clear hb HIS)
      obtain⟨i12,op12,k12,a12,hr12,ha12⟩:=HS12.out.row_
      have HRW12:=YV hr12
      have HA12:=YV ha12
      have c1:=hr12.cell 1
      have f1:=hr12.free 1
      simp[zg] at c1
      clear hr12 ha12
      go_upto_region 30 with fail
      have HS13:Hid (Rs g c ts (w92.setCell ⟨b,1,none⟩ (.int .i64 (wrap64 (i12+1)))) b o1 (.ok () Li.tail)):=YV (HS12.out.inc HRW12.out HA12.out HWT.out)
      have hgs:w92.grownBy (w92.setCell ⟨b,1,none⟩ (.int .i64 (wrap64 (i12+1)))) (some b):=zf (zd w92 b) 1 _
      have HG13:=YV (za HG12.out hgs)
      replace HPT:=YV (HPT.out.grown hgs (fun e=>by injection e with e;omega))
      replace HOT:=YV (HOT.out.keep zX hgs (fun q e=>by injection e with e;omega))
      replace HKT:=YV (HKT.out.step hgs hBx (fun q e=>by injection e with e;exact .inl e.symm))
      clear hgs c1 f1 HRW12 HA12
      generalize w92.setCell ⟨b,1,none⟩ (.int .i64 (wrap64 (i12+1)))=v13 at HS13 HG13 HPT HOT HKT ⊢
      have e4:=HPT.out.cell 4
      have ez:=HPT.out.lt
      simp at e4
      by_cases h1000:1000≤acc.length
      ·have hi1000:(1000:Int)≤(acc.length:Int):=by omega
       have HFL:Hid (∀ w1,Rs g c ts w1 b o1 (.ok () Li.tail)→Calls Tryz.prog 45 #[.pointer (some ⟨b,0,none⟩),.int .i64 4] w1 (RRes g c ts b o1 w1 NoV (vj acc.length Li.tail))):=YV fun w1 h1=>by
        have:=u9 g c ts b o1 4 (.ok () Li.tail) w1 h1 (by decide)
        unfold vj;rw[if_pos h1000];exact this
       go_upto_region 32 with (go_at_call 45;refine(HFL.out _ HS13.out).mono ?_;rintro e w14 ⟨_,v,rfl,hv,g1,g2,_⟩;obtain rfl:v=.tuple #[]:=hv;have HRA:Hid (RA g c ts b v0 o1 (vj acc.length Li.tail) w14):=YV ⟨by rw[Pr.unit_id] at g2;exact g2,za HG13.out g1⟩;replace HPT:=YV (HPT.out.grown g1 (fun e=>by injection e with e;omega));replace HOT:=YV (HOT.out.keep zX g1 (fun q e=>by injection e with e;omega));replace HKT:=YV (HKT.out.step g1 hBx (fun q e=>by injection e with e;exact .inl e.symm));clear g1 g2 HFL)
       clear e4 ez hi1000 h1000 HF0 HF5 HF7 HYY
       have HV5:Hid (∀ q,(Value.slice Av acc.length cv).ownBlock=some q→B2≤q∧q<w14.heap.size):=YV (HOT.out.lt)
       refine Tame.wp_region_tamg (L:=Tame.Later) (M:=ME b p (Value.slice Av acc.length cv)) (gs:=jr g c ts b o1 p B2 (vj acc.length Li.tail) v0 v9 52 #[.int .i64 6,.int .i64 0,.int .i64 0,.string ⟨x.toArray⟩,.slice Av acc.length cv] RX 52 5 acc (Value.slice Av acc.length cv)) [3,5,7] (by kernel_rfl) (by kernel_rfl) Tame.Later.refl (fun _ w=>World.grownBy.refl w _) (jk zX HRA.out HPT.out HOT.out HKT.out hbv hvp hpB hBx) ?_
       repeat
        ((first
         |(refine Tame.walk3_known (o:=⟨some 126,_,_,_,_,_⟩) (by kernel_rfl) (fun _=>rfl) ?_;apply Exists.intro;refine⟨fun vals w2 hG hd=>?_,?_⟩;(focus(have r:=(hG 1 _ rfl (by kernel_rfl):Row w2 p 52 #[.int .i64 6,.int .i64 0,.int .i64 0,.string ⟨x.toArray⟩,.slice Av acc.length cv]);have u4:=r.cell 4;clear hd hG r;simp at u4;go_simp;exact Tame.Is.mk (Tame.Later.refl _))))
         |(refine Tame.walk3_write (o:=⟨some 128,_,_,_,_,_⟩) (AftC g c ts b v0 o1 ri.unit (VX B2 (Value.slice Av acc.length cv).ownBlock) (fun y=>∀ z L,ri=.ok z L→y=z)) (none) ([5,7]) (fun _=>rfl) (by kernel_rfl) (by kernel_rfl) (fun u a c hl h=>AftC.later ua h hl) (fun i _ hj u a c hs h=>AftC.turn ua hj hs h (fun q hq=>(HV5.out q hq).1) hbv hvp hpB) (fun vals w2 hG hd=>?_) ?_;(focus(have ha2:=(hG 0 _ rfl (by kernel_rfl):RA g c ts b v0 o1 (vj acc.length Li.tail) w2);have hk2:=(hG 3 _ rfl (by kernel_rfl):Kp2 B2 b p v9 w2);have ho2:=(hG 2 _ rfl (by kernel_rfl):OwnW RX 52 5 B2 acc (Value.slice Av acc.length cv) w2);have HC:=YV (HXP.out w2 ha2.1);have HA9:=YV ha2;have hk3:=hk2.size;have HO2:=YV ho2;clear hd hG ha2 hk2 ho2;go_simp;refine HC.out.mono ?_;rintro e w' ⟨y,v,rfl,⟨E,d,rfl,hk⟩,g1,g2,g3⟩;exact⟨_,rfl,Tame.Leaves.mk g1 ⟨HA9.out.step g2 g1,y,g3,⟨E,d,rfl,hk.move (fun q hq=>⟨⟨by have:=hq.1;omega,hq.2,fun e=>by have:=(HO2.out.lt q e.symm).2;have:=hq.1;omega⟩,rfl⟩)⟩⟩⟩)))
         |(refine Tame.walk3_some (o:=⟨some 129,_,_,_,_,_⟩) (AftR (WX B2 (Value.slice Av acc.length cv).ownBlock) (fun y=>∀ z L,ri=.ok z L→y=z)) (none) ([3,5,7]) (by kernel_rfl) (fun _=>rfl) (by kernel_rfl) (fun u a c hl h=>AftR.later (v:=(Value.slice Av acc.length cv)) vZ h hl) (fun i _ hj u a c hs h=>AftR.turn vZ hj hs h (by omega) hpB) (fun vals w2 hG hd=>?_) ?_;(focus(have h1:=(hd 3 _ rfl (by kernel_rfl) rfl:AftC g c ts b v0 o1 ri.unit (VX B2 (Value.slice Av acc.length cv).ownBlock) (fun y=>∀ z L,ri=.ok z L→y=z) (vals 3) w2);have hk2:=(hG 3 _ rfl (by kernel_rfl):Kp2 B2 b p v9 w2);have hk3:=hk2.size;have ho2:=(hG 2 _ rfl (by kernel_rfl):OwnW RX 52 5 B2 acc (Value.slice Av acc.length cv) w2);have HO2:=YV ho2;clear hG hd hk2 ho2;obtain⟨ha2,y,hyy,E,d,hv1,k1⟩:=h1;have HK1:=YV k1;clear k1;clear ha2;go_simp;exact Tame.Has.mk ((Below.refl _ _).alloc (Nat.le_refl _) _) ⟨y,hyy,qZ HK1.out (by omega) (fun e=>by have:=(HO2.out.lt _ e.symm).2;omega)⟩)))
         |(refine Tame.walk3_write (o:=⟨some 130,_,_,_,_,_⟩) (AftS RX 52 5 B2 acc (fun y=>∀ z L,ri=.ok z L→y=z)) (none) ([7]) (fun _=>rfl) (by kernel_rfl) (by kernel_rfl) (fun u a c hl h=>AftS.later zX h hl) (fun i _ hj u a c hs h=>by obtain rfl:=zZ hj;exact AftS.other (p:=p) zX h hs hpB) (fun vals w2 hG hd=>?_) ?_;(focus(have hk2:=(hG 3 _ rfl (by kernel_rfl):Kp2 B2 b p v9 w2);have hk3:=hk2.size;have h1:=(hd 4 _ rfl (by kernel_rfl) rfl:AftR (WX B2 (Value.slice Av acc.length cv).ownBlock) (fun y=>∀ z L,ri=.ok z L→y=z) (vals 4) w2);have h2:=(hG 2 _ rfl (by kernel_rfl):OwnW RX 52 5 B2 acc (Value.slice Av acc.length cv) w2);clear hG hd hk2;obtain⟨y,hyy,g1,E,d,hv1,hr1,k1,k2,k3⟩:=h1;obtain⟨cs,ho,hx⟩:=h2;exact zK (.tmp 126) (.tmp 129) _ rfl B2 52 i0 _ 5 64 Tryz.underlying50 HI0.out HI1.out HI2.out HI3.out rfl (by omega) (by omega) (Value.slice Av acc.length cv) _ cs rfl ho g1 1 52 (x5 y E d).toList hv1 rfl (by simpa using hr1) (zX.one (w:=w2) (S:=Sb B2 (Value.slice Av acc.length cv).ownBlock w2) (x:=y) ⟨E,d,rfl,k1⟩) (by omega) (by omega) (fun v' w' ho' hgr hat=>⟨hgr,y,hyy,OwnW.snoc zX hx ho' hgr hat ⟨E,d,rfl,k1⟩⟩))))
         |(refine Tame.walk3_lays (o:=⟨none,Op.store _ _ _,_,_,_,_⟩) (fun vals w=>Row w p 52 #[.int .i64 6,.int .i64 0,.int .i64 0,.string ⟨x.toArray⟩,vals 5]) none ([]) ([5]) (fun _=>rfl) (by kernel_rfl) (by kernel_rfl) (by kernel_rfl) (fun vals vals' w hh h=>by rw[← hh 5 (by decide)];exact h) (fun vals w w' hl h=>Row.below h hl (Row.lt h)) (fun j hj hk=>by cases hk) (fun vals w2 hG hd=>?_) ?_;(focus(have h1:=(hd 5 _ rfl (by kernel_rfl) (by kernel_rfl):AftS RX 52 5 B2 acc (fun y=>∀ z L,ri=.ok z L→y=z) (vals 5) w2);have hr:=(hG 1 _ rfl (by kernel_rfl):Row w2 p 52 #[.int .i64 6,.int .i64 0,.int .i64 0,.string ⟨x.toArray⟩,.slice Av acc.length cv]);clear hG hd;obtain⟨E1,d1,hv1⟩:=h1.slice;have HR1:=YV hr;have c4:=hr.cell 4;have f4:=hr.free 4;simp at c4;clear hr h1;go_simp;exact⟨zf (zd _ p) 4 _,by first | exact HR1.out.set 4 (.slice E1 (acc.length+1) d1)|(rw[hv1];exact HR1.out.set 4 (.slice E1 (acc.length+1) d1))⟩)))
         |(refine Tame.walk3_known (by kernel_rfl) (fun _=>rfl) ?_;apply Exists.intro;refine⟨fun vals w2 hG hd=>?_,?_⟩;(focus(go_simp;first | exact Tame.Is.mk (Tame.Later.refl _)|(rw[if_neg];(focus exact Tame.Is.mk (Tame.Later.refl _));omega)))))
         simp only[Act.put,List.setIfInBounds_toArray,List.set_cons_zero,List.set_cons_succ,List.nil_append,List.cons_append,List.length_cons,List.length_nil,Nat.zero_add,Nat.reduceAdd])
       refine Tame.walk3_end fun vals w5 hG hts=>?_
       have HF0:Hid (Kp2 B2 b p v9 w5):=YV (hG 3 _ rfl (by kernel_rfl))
       have HF3:Hid (RA g c ts b v0 o1 ri.unit w5):=YV ((hts 3 _ rfl rfl:AftC g c ts b v0 o1 ri.unit (VX B2 (Value.slice Av acc.length cv).ownBlock) (fun y=>∀ z L,ri=.ok z L→y=z) (vals 3) w5).1)
       have f5:AftS RX 52 5 B2 acc (fun y=>∀ z L,ri=.ok z L→y=z) (vals 5) w5:=hts 5 _ rfl rfl
       have f7:Row w5 p 52 #[.int .i64 6,.int .i64 0,.int .i64 0,.string ⟨x.toArray⟩,vals 5]:=hts 7 _ rfl rfl
       obtain⟨y,hyy,f6⟩:=f5
       obtain⟨A7,c7,hv7,_⟩:=f6.slice
       rw[hv7] at f6 f7
       have HYY:=YV hyy
       have HF5:=YV f6
       have HF7:=YV f7
       clear f6 f7 hts hG hv7 hyy
       go_wp2_with fail
       go_roundg fl
       case rel=>exact⟨acc++[y],A7,c7,_,HNX.out y HYY.out,by omega,HF3.out,by simpa using HF7.out,HF5.out,HF0.out⟩
       case measure=>omega
      ·have hi1000:¬ (1000:Int)≤(acc.length:Int):=by omega
       have HRA:Hid (RA g c ts b v0 o1 (vj acc.length Li.tail) v13):=YV ⟨by unfold vj;rw[if_neg h1000];exact HS13.out,HG13.out⟩
       go_upto_region 32 with fail
       clear e4 ez hi1000 h1000 HF0 HF5 HF7 HYY
       have HV5:Hid (∀ q,(Value.slice Av acc.length cv).ownBlock=some q→B2≤q∧q<v13.heap.size):=YV (HOT.out.lt)
       refine Tame.wp_region_tamg (L:=Tame.Later) (M:=ME b p (Value.slice Av acc.length cv)) (gs:=jr g c ts b o1 p B2 (vj acc.length Li.tail) v0 v9 52 #[.int .i64 6,.int .i64 0,.int .i64 0,.string ⟨x.toArray⟩,.slice Av acc.length cv] RX 52 5 acc (Value.slice Av acc.length cv)) [3,5,7] (by kernel_rfl) (by kernel_rfl) Tame.Later.refl (fun _ w=>World.grownBy.refl w _) (jk zX HRA.out HPT.out HOT.out HKT.out hbv hvp hpB hBx) ?_
       repeat
        ((first
         |(refine Tame.walk3_known (o:=⟨some 126,_,_,_,_,_⟩) (by kernel_rfl) (fun _=>rfl) ?_;apply Exists.intro;refine⟨fun vals w2 hG hd=>?_,?_⟩;(focus(have r:=(hG 1 _ rfl (by kernel_rfl):Row w2 p 52 #[.int .i64 6,.int .i64 0,.int .i64 0,.string ⟨x.toArray⟩,.slice Av acc.length cv]);have u4:=r.cell 4;clear hd hG r;simp at u4;go_simp;exact Tame.Is.mk (Tame.Later.refl _))))
         |(refine Tame.walk3_write (o:=⟨some 128,_,_,_,_,_⟩) (AftC g c ts b v0 o1 ri.unit (VX B2 (Value.slice Av acc.length cv).ownBlock) (fun y=>∀ z L,ri=.ok z L→y=z)) (none) ([5,7]) (fun _=>rfl) (by kernel_rfl) (by kernel_rfl) (fun u a c hl h=>AftC.later ua h hl) (fun i _ hj u a c hs h=>AftC.turn ua hj hs h (fun q hq=>(HV5.out q hq).1) hbv hvp hpB) (fun vals w2 hG hd=>?_) ?_;(focus(have ha2:=(hG 0 _ rfl (by kernel_rfl):RA g c ts b v0 o1 (vj acc.length Li.tail) w2);have hk2:=(hG 3 _ rfl (by kernel_rfl):Kp2 B2 b p v9 w2);have ho2:=(hG 2 _ rfl (by kernel_rfl):OwnW RX 52 5 B2 acc (Value.slice Av acc.length cv) w2);have HC:=YV (HXP.out w2 ha2.1);have HA9:=YV ha2;have hk3:=hk2.size;have HO2:=YV ho2;clear hd hG ha2 hk2 ho2;go_simp;refine HC.out.mono ?_;rintro e w' ⟨y,v,rfl,⟨E,d,rfl,hk⟩,g1,g2,g3⟩;exact⟨_,rfl,Tame.Leaves.mk g1 ⟨HA9.out.step g2 g1,y,g3,⟨E,d,rfl,hk.move (fun q hq=>⟨⟨by have:=hq.1;omega,hq.2,fun e=>by have:=(HO2.out.lt q e.symm).2;have:=hq.1;omega⟩,rfl⟩)⟩⟩⟩)))
         |(refine Tame.walk3_some (o:=⟨some 129,_,_,_,_,_⟩) (AftR (WX B2 (Value.slice Av acc.length cv).ownBlock) (fun y=>∀ z L,ri=.ok z L→y=z)) (none) ([3,5,7]) (by kernel_rfl) (fun _=>rfl) (by kernel_rfl) (fun u a c hl h=>AftR.later (v:=(Value.slice Av acc.length cv)) vZ h hl) (fun i _ hj u a c hs h=>AftR.turn vZ hj hs h (by omega) hpB) (fun vals w2 hG hd=>?_) ?_;(focus(have h1:=(hd 3 _ rfl (by kernel_rfl) rfl:AftC g c ts b v0 o1 ri.unit (VX B2 (Value.slice Av acc.length cv).ownBlock) (fun y=>∀ z L,ri=.ok z L→y=z) (vals 3) w2);have hk2:=(hG 3 _ rfl (by kernel_rfl):Kp2 B2 b p v9 w2);have hk3:=hk2.size;have ho2:=(hG 2 _ rfl (by kernel_rfl):OwnW RX 52 5 B2 acc (Value.slice Av acc.length cv) w2);have HO2:=YV ho2;clear hG hd hk2 ho2;obtain⟨ha2,y,hyy,E,d,hv1,k1⟩:=h1;have HK1:=YV k1;clear k1;clear ha2;go_simp;exact Tame.Has.mk ((Below.refl _ _).alloc (Nat.le_refl _) _) ⟨y,hyy,qZ HK1.out (by omega) (fun e=>by have:=(HO2.out.lt _ e.symm).2;omega)⟩)))
         |(refine Tame.walk3_write (o:=⟨some 130,_,_,_,_,_⟩) (AftS RX 52 5 B2 acc (fun y=>∀ z L,ri=.ok z L→y=z)) (none) ([7]) (fun _=>rfl) (by kernel_rfl) (by kernel_rfl) (fun u a c hl h=>AftS.later zX h hl) (fun i _ hj u a c hs h=>by obtain rfl:=zZ hj;exact AftS.other (p:=p) zX h hs hpB) (fun vals w2 hG hd=>?_) ?_;(focus(have hk2:=(hG 3 _ rfl (by kernel_rfl):Kp2 B2 b p v9 w2);have hk3:=hk2.size;have h1:=(hd 4 _ rfl (by kernel_rfl) rfl:AftR (WX B2 (Value.slice Av acc.length cv).ownBlock) (fun y=>∀ z L,ri=.ok z L→y=z) (vals 4) w2);have h2:=(hG 2 _ rfl (by kernel_rfl):OwnW RX 52 5 B2 acc (Value.slice Av acc.length cv) w2);clear hG hd hk2;obtain⟨y,hyy,g1,E,d,hv1,hr1,k1,k2,k3⟩:=h1;obtain⟨cs,ho,hx⟩:=h2;exact zK (.tmp 126) (.tmp 129) _ rfl B2 52 i0 _ 5 64 Tryz.underlying50 HI0.out HI1.out HI2.out HI3.out rfl (by omega) (by omega) (Value.slice Av acc.length cv) _ cs rfl ho g1 1 52 (x5 y E d).toList hv1 rfl (by simpa using hr1) (zX.one (w:=w2) (S:=Sb B2 (Value.slice Av acc.length cv).ownBlock w2) (x:=y) ⟨E,d,rfl,k1⟩) (by omega) (by omega) (fun v' w' ho' hgr hat=>⟨hgr,y,hyy,OwnW.snoc zX hx ho' hgr hat ⟨E,d,rfl,k1⟩⟩))))
         |(refine Tame.walk3_lays (o:=⟨none,Op.store _ _ _,_,_,_,_⟩) (fun vals w=>Row w p 52 #[.int .i64 6,.int .i64 0,.int .i64 0,.string ⟨x.toArray⟩,vals 5]) none ([]) ([5]) (fun _=>rfl) (by kernel_rfl) (by kernel_rfl) (by kernel_rfl) (fun vals vals' w hh h=>by rw[← hh 5 (by decide)];exact h) (fun vals w w' hl h=>Row.below h hl (Row.lt h)) (fun j hj hk=>by cases hk) (fun vals w2 hG hd=>?_) ?_;(focus(have h1:=(hd 5 _ rfl (by kernel_rfl) (by kernel_rfl):AftS RX 52 5 B2 acc (fun y=>∀ z L,ri=.ok z L→y=z) (vals 5) w2);have hr:=(hG 1 _ rfl (by kernel_rfl):Row w2 p 52 #[.int .i64 6,.int .i64 0,.int .i64 0,.string ⟨x.toArray⟩,.slice Av acc.length cv]);clear hG hd;obtain⟨E1,d1,hv1⟩:=h1.slice;have HR1:=YV hr;have c4:=hr.cell 4;have f4:=hr.free 4;simp at c4;clear hr h1;go_simp;exact⟨zf (zd _ p) 4 _,by first | exact HR1.out.set 4 (.slice E1 (acc.length+1) d1)|(rw[hv1];exact HR1.out.set 4 (.slice E1 (acc.length+1) d1))⟩)))
         |(refine Tame.walk3_known (by kernel_rfl) (fun _=>rfl) ?_;apply Exists.intro;refine⟨fun vals w2 hG hd=>?_,?_⟩;(focus(go_simp;first | exact Tame.Is.mk (Tame.Later.refl _)|(rw[if_neg];(focus exact Tame.Is.mk (Tame.Later.refl _));omega)))))
         simp only[Act.put,List.setIfInBounds_toArray,List.set_cons_zero,List.set_cons_succ,List.nil_append,List.cons_append,List.length_cons,List.length_nil,Nat.zero_add,Nat.reduceAdd])
       refine Tame.walk3_end fun vals w5 hG hts=>?_
       have HF0:Hid (Kp2 B2 b p v9 w5):=YV (hG 3 _ rfl (by kernel_rfl))
       have HF3:Hid (RA g c ts b v0 o1 ri.unit w5):=YV ((hts 3 _ rfl rfl:AftC g c ts b v0 o1 ri.unit (VX B2 (Value.slice Av acc.length cv).ownBlock) (fun y=>∀ z L,ri=.ok z L→y=z) (vals 3) w5).1)
       have f5:AftS RX 52 5 B2 acc (fun y=>∀ z L,ri=.ok z L→y=z) (vals 5) w5:=hts 5 _ rfl rfl
       have f7:Row w5 p 52 #[.int .i64 6,.int .i64 0,.int .i64 0,.string ⟨x.toArray⟩,vals 5]:=hts 7 _ rfl rfl
       obtain⟨y,hyy,f6⟩:=f5
       obtain⟨A7,c7,hv7,_⟩:=f6.slice
       rw[hv7] at f6 f7
       have HYY:=YV hyy
       have HF5:=YV f6
       have HF7:=YV f7
       clear f6 f7 hts hG hv7 hyy
       go_wp2_with fail
       go_roundg fl
       case rel=>exact⟨acc++[y],A7,c7,_,HNX.out y HYY.out,by omega,HF3.out,by simpa using HF7.out,HF5.out,HF0.out⟩
       case measure=>omega
end Go.Proofs.YtdabndiaflagpaaGreatDoor
