/- Parts: PsY4. -/
import Derived.Test.YtdabndiaflagpaaGreatDoorK25
set_option maxRecDepth 100000
set_option maxHeartbeats 4000000
namespace Go.Proofs.YtdabndiaflagpaaGreatDoor
open Go.RowKit
theorem xk {L:List Tk} {i:Nat} (hi:i<3) (hb:∀ (j:Nat) t,j<i→uN[j]? = some t→isP t L=false) {t:T} (ht:uN[i]? = some t) (h:isP t L=true):preP L=some (i:Int):=by
 obtain rfl | rfl | rfl:i=0∨i=1∨i=2:=by omega
 ·obtain rfl:=Option.some.inj ht
  simp[preP,uO,List.find?,h]
 ·obtain rfl:=Option.some.inj ht
  have h0:=hb 0 [45] (by omega) rfl
  simp[preP,uO,List.find?,h,h0]
 ·obtain rfl:=Option.some.inj ht
  have h0:=hb 0 [45] (by omega) rfl
  have h1:=hb 1 wNot (by omega) rfl
  simp[preP,uO,List.find?,h,h0,h1]
theorem preP_no {L:List Tk} (hb:∀ (j:Nat) t,j<3→uN[j]? = some t→isP t L=false):preP L=none:=by
 have h0:=hb 0 [45] (by omega) rfl
 have h1:=hb 1 wNot (by omega) rfl
 have h2:=hb 2 wPre (by omega) rfl
 simp[preP,uO,List.find?,h0,h1,h2]
theorem rPrefix (g c:Nat) (ts:List Tk) (b f o:Nat) (L:List Tk) (w:World) (ih:∀ f',f'≤f→RE g c ts b f') (hf:16 * L.length+5≤f+1) (h:Rs g c ts w b o (.ok () L)) :
  Calls Tryz.prog 166 #[.pointer (some ⟨b,0,none⟩)] w (RRes g c ts b o w (XV w.heap.size) (zF (f+1) L o)):=by
 obtain⟨R,hR⟩:∃ R,R=zF (f+1) L o:=⟨_,rfl⟩
 rw[← hR]
 rw[zF] at hR
 have hlt:=h.lt
 have ho4:=h.open_
 have hwf:WFt L:=h.good_
 obtain⟨b0,hb0⟩:∃ z,z=isP [45] L:=⟨_,rfl⟩
 have H0:Hid (∀ w1,Rs g c ts w1 b o (.ok () L)→Calls Tryz.prog 44 #[.pointer (some ⟨b,0,none⟩),.string ⟨#[45]⟩] w1 fun e w'=>e=.returned (.bool b0)∧Below w1.heap.size w1 w'):=YV fun w1 h1=>by rw[hb0];exact rIs g c ts b o [45] (.ok () L) w1 h1 (by decide)
 obtain⟨b1,hb1⟩:∃ z,z=isP wNot L:=⟨_,rfl⟩
 have H1:Hid (∀ w1,Rs g c ts w1 b o (.ok () L)→Calls Tryz.prog 44 #[.pointer (some ⟨b,0,none⟩),.string ⟨#[110,111,116]⟩] w1 fun e w'=>e=.returned (.bool b1)∧Below w1.heap.size w1 w'):=YV fun w1 h1=>by rw[hb1];exact rIs g c ts b o wNot (.ok () L) w1 h1 (by decide)
 obtain⟨b2,hb2⟩:∃ z,z=isP wPre L:=⟨_,rfl⟩
 have H2:Hid (∀ w1,Rs g c ts w1 b o (.ok () L)→Calls Tryz.prog 44 #[.pointer (some ⟨b,0,none⟩),.string ⟨#[112,114,101]⟩] w1 fun e w'=>e=.returned (.bool b2)∧Below w1.heap.size w1 w'):=YV fun w1 h1=>by rw[hb2];exact rIs g c ts b o wPre (.ok () L) w1 h1 (by decide)
 have HA:Hid (preP L=none→∀ w1,Rs g c ts w1 b o (.ok () L)→Calls Tryz.prog 186 #[.pointer (some ⟨b,0,none⟩)] w1 (RRes g c ts b o w1 (XV w1.heap.size) R)):=YV fun hp w1 h1=>by
  rw[hp] at hR
  rw[hR]
  exact(ih f (Nat.le_refl _)).atom o L w1 (by omega) h1
 have HP:=YV qG
 have HEN:Hid (∀ w1,Rs g c ts w1 b o (.ok () L)→_):=YV fun w1 h1=>qg g c ts b o (.ok () L) w1 h1
 obtain⟨σ1,hσ1⟩:∃ σ1,σ1=jP o (.ok () L):=⟨_,rfl⟩
 obtain⟨ry,hry⟩:∃ ry,ry=(jN σ1).bind fun _ L=>zF f L (more o):=⟨_,rfl⟩
 have HRR:Hid (∀ op,preP L=some op→R=ry.bind fun y L=>.ok (X.mk 3 op 0 [] [y]) L):=YV fun op hp=>by
  rw[hR,hp,hry,hσ1]
  show ji o L _=_
  rw[uF (fun o L=>(zF f L o).bind fun x L=>.ok (X.mk 3 op 0 [] [x]) L),Pr.bind_assoc]
 have HNE:Hid (∀ op,preP L=some op→WFt L.tail∧L.tail.length<L.length):=YV fun op hp=>jS hwf (.inl (yb hp))
 have HPY:Hid (L.tail.length<L.length→∀ w1,Rs g c ts w1 b (more o) (jN σ1)→Calls Tryz.prog 166 #[.pointer (some ⟨b,0,none⟩)] w1 (RRes g c ts b (more o) w1 (XV w1.heap.size) ry)):=YV fun hl w1 h1=>by
  rw[hry]
  refine J1 (ih f (Nat.le_refl _)) (fun M e=>?_) h1
  have:LeS L.tail.length (jN σ1):=by rw[hσ1];exact LeS.pass (Nat.le_refl _)
  have:=this M e
  omega
 have HBAD:Hid (400≤o→σ1=.bad 5 (hdF L)∧ry=.bad 5 (hdF L)):=YV fun h4=>by
  have e1:σ1=.bad 5 (hdF L):=by rw[hσ1];show (if 400≤o then (zC 5 L:Pr Unit) else .ok () L)=_;rw[if_pos h4];rfl
  exact⟨e1,by rw[hry,e1];rfl⟩
 have HOK:Hid (o<400→σ1=.ok () L):=YV fun h4=>by
  rw[hσ1];show (if 400≤o then (zC 5 L:Pr Unit) else .ok () L)=_;rw[if_neg (by omega)]
 rw[← hσ1] at HEN
 obtain⟨o1,ho1⟩:∃ o1,o1=more o:=⟨_,rfl⟩
 have HO1:=YV ho1
 rw[← ho1] at HEN HPY
 have HB:Hid (b0=isP [45] L∧b1=isP wNot L∧b2=isP wPre L):=YV ⟨hb0,hb1,hb2⟩
 obtain⟨v0,hv0⟩:∃ v,v=w.alloc (.cells #[.int .i64 0,.int .i64 0,.int .i64 0,.string ⟨#[]⟩,.slice none 0 0] 52):=⟨_,rfl⟩
 have hv:Below w.heap.size w v0:=by rw[hv0];exact(Below.refl _ _).alloc (Nat.le_refl _) _
 have HV:=YV hv
 have hz0:v0.heap.size=w.heap.size+1:=by rw[hv0];simp
 have HZ0:=YV hz0
 have HR:Hid (Row v0 w.heap.size 52 z5):=YV (by rw[hv0];exact Row.made _ _ _)
 have HS0:Hid (Rs g c ts v0 b o (.ok () L)):=YV (h.later hv)
 obtain⟨q,hq⟩:∃ q,q=w.heap.size:=⟨_,rfl⟩
 have HQ:=YV hq
 rw[← hq] at HR hz0 hlt
 have hqb:q≠b:=by omega
 have hqv:q<v0.heap.size:=by omega
 have hbv:b<v0.heap.size:=by omega
 have HFIN:Hid (∀ (wk:World) (x:X) (A:Option Addr) (cx:Nat) (old:Array Value),v0.grownBy wk (some b)→Row wk q 52 old→KS wk (Bt (q+1) wk.heap.size) A x.ks→Rs g c ts wk b o R.unit→(∀ y L,R=.ok y L→x=y)→_):=YV fun wk x A cx old h1 h2 h3 h4 h5=>vX (cx:=cx) hq (by omega) hv h1 h2 h3 h4 h5
 clear h hv hR hf ih hwf hσ1 hry ho1 hb0 hb1 hb2 hz0
 go_enter Tryz.func166,Tryz.ntmps166
 go_upto_region 2 with fail
 rw[← hv0,← hq]
 clear hv0 hq
 go_loopg [3] 3 (fun g' kk wr=>∃ i:Nat,i+g'=3∧kk=.int .i64 (i:Int)∧(∀ (j:Nat) t,j<i→uN[j]? = some t→isP t L=false)∧v0.grownBy wr (some b)∧Rs g c ts wr b o (.ok () L)∧Row wr q 52 z5)
 case atStart=>exact⟨0,rfl,rfl,(fun j t hj=>by omega),World.grownBy.refl _ _,HS0.out,HR.out⟩
 case round=>
  obtain⟨i,hi,rfl,hno,hg,hs,hr⟩:=hrel
  have HG:=YV hg
  have HS:=YV hs
  have HNO:=YV hno
  have HROW:=hr
  have hqr:=hr.lt
  clear hg hs hr hno
  by_cases h3:i=3
  ·subst h3
   have HAT:=YV (HA.out (preP_no HNO.out))
   clear H0 H1 H2 HP HEN HPY
   go_wp2_with (first|(go_at_call 186;refine(HAT.out _ HS.out).mono ?_;rintro e w2 ⟨x,v,rfl,⟨A,c',rfl,hk⟩,g1,g2,g3⟩;have HX:=YV hk;have hgz:=HG.out.size;have HG2:=YV (za HG.out g1);have HS2:=YV g2;have HVX:=YV g3;replace HROW:=HROW.grown g1 (fun e=>by injection e with e;omega);clear g1 g2 g3 hk HAT)|(refine wpList_store_row (o:=⟨none,Op.store _ _ _,_,_,_,_⟩) rfl _ _ _ rfl q (x5 (x) A c') rfl rfl _ _ HROW zo rfl (jf _ _ _) ?_))
   obtain⟨t1,t2⟩:=HFIN.out _ x A c' _ HG2.out HROW (HX.out.move fun m hm=>⟨⟨by have:=hm.1;have:=HZ0.out;have:=HQ.out;omega,hm.2⟩,rfl⟩) HS2.out HVX.out
   first|(exact bodyPost_ret (results_cell_row rfl _ _ q _ _ _ _ rfl t1 Tryz.underlying52 rfl zo) rfl t2)|(rw[← HQ.out] at t2;exact bodyPost_ret (results_cell_row rfl _ _ q _ _ _ _ rfl t1 Tryz.underlying52 rfl zo) rfl t2)
  ·obtain⟨wm,hwm⟩:∃ wm,wm=wr.alloc (.cells yx 9):=⟨_,rfl⟩
   have hb1:Below wr.heap.size wr wm:=by rw[hwm];exact(Below.refl _ _).alloc (Nat.le_refl _) _
   have HW1:=YV (HS.out.later hb1)
   have HR1:=YV (HROW.below hb1 HROW.lt)
   have HG1:=YV (za HG.out (zb hb1 b))
   have hrow:Row wm wr.heap.size 9 yx:=by rw[hwm];exact Row.made _ _ _
   have p0:=hrow.cell 0
   have p1:=hrow.cell 1
   have p2:=hrow.cell 2
   simp[yx] at p0 p1 p2
   have HPW:Hid (Calls Tryz.prog 185 #[] wr fun e w'=>e=.returned (.slice (some ⟨wr.heap.size,0,none⟩) 3 3)∧w'=wm):=YV (by rw[hwm];exact HP.out wr)
   clear hb1 hrow hwm HP HA HROW
   obtain rfl | rfl | rfl:i=0∨i=1∨i=2:=by omega
   ·clear H1 H2 h3 p1 p2
    cases b0 with
    | false=>
     go_wp2_with (first|(go_at_call 185;refine HPW.out.mono ?_;rintro e w1 ⟨rfl,rfl⟩;clear HPW)|(go_at_call 44;refine(H0.out _ HW1.out).mono ?_;rintro e w2 ⟨rfl,hb⟩;have HS2:=YV (HW1.out.later hb);have HR2:=YV (HR1.out.below hb HR1.out.lt);have HG2:=YV (za HG1.out (zb hb b));clear hb H0))
     go_roundg 2
     case rel=>
      refine⟨1,rfl,rfl,(fun j t hj hjt=>?_),HG2.out,HS2.out,HR2.out⟩
      rcases Nat.lt_or_ge j 0 with hlt' | hge'
      ·exact HNO.out j t hlt' hjt
      ·obtain rfl:j=0:=by omega
       obtain rfl:=Option.some.inj hjt
       exact HB.out.1.symm
     case measure=>omega
    | true=>
     have hop:preP L=some 0:=xk (i:=0) (by omega) HNO.out rfl HB.out.1.symm
     have hne:=HNE.out _ hop
     have hrr:=HRR.out _ hop
     have HW:Hid (∀ M,σ1=.ok () M→WFt M.tail):=YV fun M e=>by
      by_cases h4:400≤o
      ·rw[(HBAD.out h4).1] at e;cases e
      ·rw[HOK.out (by omega)] at e;injection e with _ e;rw[← e];exact hne.1
     have HPZ:=YV (HPY.out hne.2)
     have HRY:=YV hrr
     clear hop hne hrr HPY HRR HNE HNO
     go_upto_region 6 with (first|(go_at_call 185;refine HPW.out.mono ?_;rintro e w1 ⟨rfl,rfl⟩;clear HPW)|(go_at_call 44;refine(H0.out _ HW1.out).mono ?_;rintro e w2 ⟨rfl,hb⟩;have HS2:=YV (HW1.out.later hb);have HR2:=YV (HR1.out.below hb HR1.out.lt);have HG2:=YV (za HG1.out (zb hb b));clear hb H0)|(go_at_call 145;refine(HEN.out _ HS2.out).mono ?_;rintro e w3 ⟨rfl,g1,g2⟩;have hgz:=HG2.out.size;have HS3:=YV g2;have HG3:=YV (za HG2.out g1);have HR3:=YV (HR2.out.grown g1 (fun e=>by injection e with e;omega));obtain⟨i3,op3,k3,a3,hr3,ha3⟩:=g2.row_;have HRW3:=YV hr3;have HA3:=YV ha3;have c13:=hr3.cell 1;have f13:=hr3.free 1;simp[zg] at c13;clear g1 g2 hr3 ha3 HEN))
     clear HW1 HR1 HG1 HG HS
     go_upto_region 7 with fail
     have HS4:Hid (Rs g c ts (w3.setCell ⟨b,1,none⟩ (.int .i64 (wrap64 (i3+1)))) b o1 (jN σ1)):=YV (HS3.out.inc HRW3.out HA3.out HW.out)
     have hgs:w3.grownBy (w3.setCell ⟨b,1,none⟩ (.int .i64 (wrap64 (i3+1)))) (some b):=zf (zd w3 b) 1 _
     have HG4:=YV (za HG3.out hgs)
     have HR4:=YV (HR3.out.grown hgs (fun e=>by injection e with e;omega))
     clear hgs c13 f13 HRW3 HA3 HS3 HG3 HR3
     generalize w3.setCell ⟨b,1,none⟩ (.int .i64 (wrap64 (i3+1)))=v3 at HS4 HG4 HR4 ⊢
     by_cases h4:400≤o
     ·obtain⟨e1,e2⟩:=HBAD.out h4
      have HRB:Hid (R=.bad 5 (hdF L)):=YV (by rw[HRY.out,e2];rfl)
      have hs4:=HS4.out
      rw[e1] at hs4
      have HS5:Hid (Rs g c ts v3 b o (.bad 5 (hdF L))):=YV (Rs.gone hs4 ho4)
      obtain⟨i4,op4,k4,a4,hr4,ha4⟩:=hs4.row_
      obtain⟨rfl,rfl⟩:=ha4
      have c34:=hr4.cell 3
      simp[zg] at c34
      have HROW:=HR4.out
      clear hr4 hs4 e1 e2 HPZ HRY
      go_wp2_with (refine wpList_store_row (o:=⟨none,Op.store _ _ _,_,_,_,_⟩) rfl _ _ _ rfl q (x5 (.mk 0 0 0 [] []) none 0) rfl rfl _ _ HROW zo rfl (jf _ _ _) ?_)
      obtain⟨t1,t2⟩:=HFIN.out _ (.mk 0 0 0 [] []) none 0 _ HG4.out HROW (.inl rfl) (by rw[HRB.out];exact HS5.out) (fun y L' e=>by rw[HRB.out] at e;cases e)
      first|(exact bodyPost_ret (results_cell_row rfl _ _ q _ _ _ _ rfl t1 Tryz.underlying52 rfl zo) rfl t2)|(rw[← HQ.out] at t2;exact bodyPost_ret (results_cell_row rfl _ _ q _ _ _ _ rfl t1 Tryz.underlying52 rfl zo) rfl t2)
     ·have e1:=HOK.out (by omega)
      have hs4:=HS4.out
      rw[e1] at hs4
      obtain⟨i4,op4,k4,a4,hr4,ha4⟩:=hs4.row_
      obtain⟨rfl,rfl,_⟩:=ha4
      have c34:=hr4.cell 3
      simp[zg] at c34
      clear hr4 hs4 e1
      go_upto_region 10 with (go_at_call 166;refine(HPZ.out _ HS4.out).mono ?_;rintro e w5 ⟨y,v,rfl,⟨Ay,cy,rfl,hk⟩,g1,g2,g3⟩;have hgz4:=HG4.out.size;have HS5:Hid (Rs g c ts (w5.alloc (.cells #[.int .i64 y.k,.int .i64 y.o,.int .i64 y.n,.string ⟨y.s.toArray⟩,.slice Ay y.ks.length cy] 52)) b o1 ry.unit):=YV (g2.later ((Below.refl _ _).alloc (Nat.le_refl _) _));have HG5:Hid (v0.grownBy (w5.alloc (.cells #[.int .i64 y.k,.int .i64 y.o,.int .i64 y.n,.string ⟨y.s.toArray⟩,.slice Ay y.ks.length cy] 52)) (some b)):=YV (zi (za HG4.out g1) _);have HR5:=YV ((HR4.out.grown g1 (fun e=>by injection e with e;omega)).alloc (.cells #[.int .i64 y.k,.int .i64 y.o,.int .i64 y.n,.string ⟨y.s.toArray⟩,.slice Ay y.ks.length cy] 52));have HBY5:Hid (BoxR b v0.heap.size y Ay cy w5.heap.size (w5.alloc (.cells #[.int .i64 y.k,.int .i64 y.o,.int .i64 y.n,.string ⟨y.s.toArray⟩,.slice Ay y.ks.length cy] 52))):=YV (BoxR.made hbv HG4.out.size g1 hk);have HVY:=YV g3;clear g1 g2 g3 hk HPZ)
      generalize w5.alloc (.cells #[.int .i64 y.k,.int .i64 y.o,.int .i64 y.n,.string ⟨y.s.toArray⟩,.slice Ay y.ks.length cy] 52)=v5 at HS5 HG5 HR5 HBY5 ⊢
      obtain⟨py,hpy⟩:∃ p,p=w5.heap.size:=⟨_,rfl⟩
      rw[← hpy] at HBY5 ⊢
      clear hpy c34
      obtain⟨i5,op5,k5,a5,hr5,ha5⟩:=HS5.out.row_
      have HRW5:=YV hr5
      have HA5:=YV ha5
      have c25:=hr5.cell 2
      have f25:=hr5.free 2
      simp[zg] at c25
      clear hr5 ha5
      go_upto_region 11 with fail
      have HS6:Hid (Rs g c ts (v5.setCell ⟨b,2,none⟩ (.int .i64 (wrap64 (op5 - 1)))) b o ry.unit):=YV (by
       have h5:=HS5.out
       have ha:=HA5.out
       rw[HO1.out] at h5 ha
       exact h5.dec HRW5.out ha ho4 (fun M e=>by omega))
      have hgs:v5.grownBy (v5.setCell ⟨b,2,none⟩ (.int .i64 (wrap64 (op5 - 1)))) (some b):=zf (zd v5 b) 2 _
      have HG6:=YV (za HG5.out hgs)
      have hgz5:=HG5.out.size
      have hrw:=HR5.out.grown hgs (fun e=>by injection e with e;omega)
      have HBY6:=YV (HBY5.out.grow hgs)
      clear hgs c25 f25 HRW5 HA5 HR5
      generalize v5.setCell ⟨b,2,none⟩ (.int .i64 (wrap64 (op5 - 1)))=v6 at HS6 HG6 hrw HBY6 ⊢
      obtain⟨y0,y1,y2,y3,y4,y5⟩:=HBY6.out.cells
      have HROW:=hrw.alloc (.cells (x5 y Ay cy) 52)
      unfold x5 at HROW
      go_wp2_with (refine wpList_store_row (o:=⟨none,Op.store _ _ _,_,_,_,_⟩) rfl _ _ _ rfl q (x5 (.mk 3 0 0 [] [y]) (some ⟨v6.heap.size,0,none⟩) 1) rfl rfl _ _ HROW zo rfl (jf _ _ _) ?_)
      have hks:=kQ (c:=cy) (fun m hm=>hm.2) HBY6.out.up
      have hrl:=hrw.lt
      obtain⟨t1,t2⟩:=HFIN.out _ (.mk 3 0 0 [] [y]) _ 1 _ (zi HG6.out (.cells (x5 y Ay cy) 52)) HROW (hks.move fun m hm=>⟨by
       rcases hm with hm | hm
       ·exact⟨by have:=hm.1;have:=HZ0.out;have:=HQ.out;omega,by have:=hm.2;simp;omega⟩
       ·exact⟨by omega,by rw[hm];simp⟩,rfl⟩) (by rw[HRY.out,Pr.unit_map ry fun y=>X.mk 3 0 0 [] [y]];exact HS6.out.later ((Below.refl _ _).alloc (Nat.le_refl _) _)) (by rw[HRY.out];exact Pr.val_map HVY.out fun y=>X.mk 3 0 0 [] [y])
      first|(exact bodyPost_ret (results_cell_row rfl _ _ q _ _ _ _ rfl t1 Tryz.underlying52 rfl zo) rfl t2)|(rw[← HQ.out] at t2;exact bodyPost_ret (results_cell_row rfl _ _ q _ _ _ _ rfl t1 Tryz.underlying52 rfl zo) rfl t2)
   ·clear H0 H2 h3 p0 p2
    cases b1 with
    | false=>
     go_wp2_with (first|(go_at_call 185;refine HPW.out.mono ?_;rintro e w1 ⟨rfl,rfl⟩;clear HPW)|(go_at_call 44;refine(H1.out _ HW1.out).mono ?_;rintro e w2 ⟨rfl,hb⟩;have HS2:=YV (HW1.out.later hb);have HR2:=YV (HR1.out.below hb HR1.out.lt);have HG2:=YV (za HG1.out (zb hb b));clear hb H1))
     go_roundg 1
     case rel=>
      refine⟨2,rfl,rfl,(fun j t hj hjt=>?_),HG2.out,HS2.out,HR2.out⟩
      rcases Nat.lt_or_ge j 1 with hlt' | hge'
      ·exact HNO.out j t hlt' hjt
      ·obtain rfl:j=1:=by omega
       obtain rfl:=Option.some.inj hjt
       exact HB.out.2.1.symm
     case measure=>omega
    | true=>
     have hop:preP L=some 1:=xk (i:=1) (by omega) HNO.out rfl HB.out.2.1.symm
     have hne:=HNE.out _ hop
     have hrr:=HRR.out _ hop
     have HW:Hid (∀ M,σ1=.ok () M→WFt M.tail):=YV fun M e=>by
      by_cases h4:400≤o
      ·rw[(HBAD.out h4).1] at e;cases e
      ·rw[HOK.out (by omega)] at e;injection e with _ e;rw[← e];exact hne.1
     have HPZ:=YV (HPY.out hne.2)
     have HRY:=YV hrr
     clear hop hne hrr HPY HRR HNE HNO
     go_upto_region 6 with (first|(go_at_call 185;refine HPW.out.mono ?_;rintro e w1 ⟨rfl,rfl⟩;clear HPW)|(go_at_call 44;refine(H1.out _ HW1.out).mono ?_;rintro e w2 ⟨rfl,hb⟩;have HS2:=YV (HW1.out.later hb);have HR2:=YV (HR1.out.below hb HR1.out.lt);have HG2:=YV (za HG1.out (zb hb b));clear hb H1)|(go_at_call 145;refine(HEN.out _ HS2.out).mono ?_;rintro e w3 ⟨rfl,g1,g2⟩;have hgz:=HG2.out.size;have HS3:=YV g2;have HG3:=YV (za HG2.out g1);have HR3:=YV (HR2.out.grown g1 (fun e=>by injection e with e;omega));obtain⟨i3,op3,k3,a3,hr3,ha3⟩:=g2.row_;have HRW3:=YV hr3;have HA3:=YV ha3;have c13:=hr3.cell 1;have f13:=hr3.free 1;simp[zg] at c13;clear g1 g2 hr3 ha3 HEN))
     clear HW1 HR1 HG1 HG HS
     go_upto_region 7 with fail
     have HS4:Hid (Rs g c ts (w3.setCell ⟨b,1,none⟩ (.int .i64 (wrap64 (i3+1)))) b o1 (jN σ1)):=YV (HS3.out.inc HRW3.out HA3.out HW.out)
     have hgs:w3.grownBy (w3.setCell ⟨b,1,none⟩ (.int .i64 (wrap64 (i3+1)))) (some b):=zf (zd w3 b) 1 _
     have HG4:=YV (za HG3.out hgs)
     have HR4:=YV (HR3.out.grown hgs (fun e=>by injection e with e;omega))
     clear hgs c13 f13 HRW3 HA3 HS3 HG3 HR3
     generalize w3.setCell ⟨b,1,none⟩ (.int .i64 (wrap64 (i3+1)))=v3 at HS4 HG4 HR4 ⊢
     by_cases h4:400≤o
     ·obtain⟨e1,e2⟩:=HBAD.out h4
      have HRB:Hid (R=.bad 5 (hdF L)):=YV (by rw[HRY.out,e2];rfl)
      have hs4:=HS4.out
      rw[e1] at hs4
      have HS5:Hid (Rs g c ts v3 b o (.bad 5 (hdF L))):=YV (Rs.gone hs4 ho4)
      obtain⟨i4,op4,k4,a4,hr4,ha4⟩:=hs4.row_
      obtain⟨rfl,rfl⟩:=ha4
      have c34:=hr4.cell 3
      simp[zg] at c34
      have HROW:=HR4.out
      clear hr4 hs4 e1 e2 HPZ HRY
      go_wp2_with (refine wpList_store_row (o:=⟨none,Op.store _ _ _,_,_,_,_⟩) rfl _ _ _ rfl q (x5 (.mk 0 0 0 [] []) none 0) rfl rfl _ _ HROW zo rfl (jf _ _ _) ?_)
      obtain⟨t1,t2⟩:=HFIN.out _ (.mk 0 0 0 [] []) none 0 _ HG4.out HROW (.inl rfl) (by rw[HRB.out];exact HS5.out) (fun y L' e=>by rw[HRB.out] at e;cases e)
      first|(exact bodyPost_ret (results_cell_row rfl _ _ q _ _ _ _ rfl t1 Tryz.underlying52 rfl zo) rfl t2)|(rw[← HQ.out] at t2;exact bodyPost_ret (results_cell_row rfl _ _ q _ _ _ _ rfl t1 Tryz.underlying52 rfl zo) rfl t2)
     ·have e1:=HOK.out (by omega)
      have hs4:=HS4.out
      rw[e1] at hs4
      obtain⟨i4,op4,k4,a4,hr4,ha4⟩:=hs4.row_
      obtain⟨rfl,rfl,_⟩:=ha4
      have c34:=hr4.cell 3
      simp[zg] at c34
      clear hr4 hs4 e1
      go_upto_region 10 with (go_at_call 166;refine(HPZ.out _ HS4.out).mono ?_;rintro e w5 ⟨y,v,rfl,⟨Ay,cy,rfl,hk⟩,g1,g2,g3⟩;have hgz4:=HG4.out.size;have HS5:Hid (Rs g c ts (w5.alloc (.cells #[.int .i64 y.k,.int .i64 y.o,.int .i64 y.n,.string ⟨y.s.toArray⟩,.slice Ay y.ks.length cy] 52)) b o1 ry.unit):=YV (g2.later ((Below.refl _ _).alloc (Nat.le_refl _) _));have HG5:Hid (v0.grownBy (w5.alloc (.cells #[.int .i64 y.k,.int .i64 y.o,.int .i64 y.n,.string ⟨y.s.toArray⟩,.slice Ay y.ks.length cy] 52)) (some b)):=YV (zi (za HG4.out g1) _);have HR5:=YV ((HR4.out.grown g1 (fun e=>by injection e with e;omega)).alloc (.cells #[.int .i64 y.k,.int .i64 y.o,.int .i64 y.n,.string ⟨y.s.toArray⟩,.slice Ay y.ks.length cy] 52));have HBY5:Hid (BoxR b v0.heap.size y Ay cy w5.heap.size (w5.alloc (.cells #[.int .i64 y.k,.int .i64 y.o,.int .i64 y.n,.string ⟨y.s.toArray⟩,.slice Ay y.ks.length cy] 52))):=YV (BoxR.made hbv HG4.out.size g1 hk);have HVY:=YV g3;clear g1 g2 g3 hk HPZ)
      generalize w5.alloc (.cells #[.int .i64 y.k,.int .i64 y.o,.int .i64 y.n,.string ⟨y.s.toArray⟩,.slice Ay y.ks.length cy] 52)=v5 at HS5 HG5 HR5 HBY5 ⊢
      obtain⟨py,hpy⟩:∃ p,p=w5.heap.size:=⟨_,rfl⟩
      rw[← hpy] at HBY5 ⊢
      clear hpy c34
      obtain⟨i5,op5,k5,a5,hr5,ha5⟩:=HS5.out.row_
      have HRW5:=YV hr5
      have HA5:=YV ha5
      have c25:=hr5.cell 2
      have f25:=hr5.free 2
      simp[zg] at c25
      clear hr5 ha5
      go_upto_region 11 with fail
      have HS6:Hid (Rs g c ts (v5.setCell ⟨b,2,none⟩ (.int .i64 (wrap64 (op5 - 1)))) b o ry.unit):=YV (by
       have h5:=HS5.out
       have ha:=HA5.out
       rw[HO1.out] at h5 ha
       exact h5.dec HRW5.out ha ho4 (fun M e=>by omega))
      have hgs:v5.grownBy (v5.setCell ⟨b,2,none⟩ (.int .i64 (wrap64 (op5 - 1)))) (some b):=zf (zd v5 b) 2 _
      have HG6:=YV (za HG5.out hgs)
      have hgz5:=HG5.out.size
      have hrw:=HR5.out.grown hgs (fun e=>by injection e with e;omega)
      have HBY6:=YV (HBY5.out.grow hgs)
      clear hgs c25 f25 HRW5 HA5 HR5
      generalize v5.setCell ⟨b,2,none⟩ (.int .i64 (wrap64 (op5 - 1)))=v6 at HS6 HG6 hrw HBY6 ⊢
      obtain⟨y0,y1,y2,y3,y4,y5⟩:=HBY6.out.cells
      have HROW:=hrw.alloc (.cells (x5 y Ay cy) 52)
      unfold x5 at HROW
      go_wp2_with (refine wpList_store_row (o:=⟨none,Op.store _ _ _,_,_,_,_⟩) rfl _ _ _ rfl q (x5 (.mk 3 1 0 [] [y]) (some ⟨v6.heap.size,0,none⟩) 1) rfl rfl _ _ HROW zo rfl (jf _ _ _) ?_)
      have hks:=kQ (c:=cy) (fun m hm=>hm.2) HBY6.out.up
      have hrl:=hrw.lt
      obtain⟨t1,t2⟩:=HFIN.out _ (.mk 3 1 0 [] [y]) _ 1 _ (zi HG6.out (.cells (x5 y Ay cy) 52)) HROW (hks.move fun m hm=>⟨by
       rcases hm with hm | hm
       ·exact⟨by have:=hm.1;have:=HZ0.out;have:=HQ.out;omega,by have:=hm.2;simp;omega⟩
       ·exact⟨by omega,by rw[hm];simp⟩,rfl⟩) (by rw[HRY.out,Pr.unit_map ry fun y=>X.mk 3 1 0 [] [y]];exact HS6.out.later ((Below.refl _ _).alloc (Nat.le_refl _) _)) (by rw[HRY.out];exact Pr.val_map HVY.out fun y=>X.mk 3 1 0 [] [y])
      first|(exact bodyPost_ret (results_cell_row rfl _ _ q _ _ _ _ rfl t1 Tryz.underlying52 rfl zo) rfl t2)|(rw[← HQ.out] at t2;exact bodyPost_ret (results_cell_row rfl _ _ q _ _ _ _ rfl t1 Tryz.underlying52 rfl zo) rfl t2)
   ·clear H0 H1 h3 p0 p1
    cases b2 with
    | false=>
     go_wp2_with (first|(go_at_call 185;refine HPW.out.mono ?_;rintro e w1 ⟨rfl,rfl⟩;clear HPW)|(go_at_call 44;refine(H2.out _ HW1.out).mono ?_;rintro e w2 ⟨rfl,hb⟩;have HS2:=YV (HW1.out.later hb);have HR2:=YV (HR1.out.below hb HR1.out.lt);have HG2:=YV (za HG1.out (zb hb b));clear hb H2))
     go_roundg 0
     case rel=>
      refine⟨3,rfl,rfl,(fun j t hj hjt=>?_),HG2.out,HS2.out,HR2.out⟩
      rcases Nat.lt_or_ge j 2 with hlt' | hge'
      ·exact HNO.out j t hlt' hjt
      ·obtain rfl:j=2:=by omega
       obtain rfl:=Option.some.inj hjt
       exact HB.out.2.2.symm
     case measure=>omega
    | true=>
     have hop:preP L=some 2:=xk (i:=2) (by omega) HNO.out rfl HB.out.2.2.symm
     have hne:=HNE.out _ hop
     have hrr:=HRR.out _ hop
     have HW:Hid (∀ M,σ1=.ok () M→WFt M.tail):=YV fun M e=>by
      by_cases h4:400≤o
      ·rw[(HBAD.out h4).1] at e;cases e
      ·rw[HOK.out (by omega)] at e;injection e with _ e;rw[← e];exact hne.1
     have HPZ:=YV (HPY.out hne.2)
     have HRY:=YV hrr
     clear hop hne hrr HPY HRR HNE HNO
     go_upto_region 6 with (first|(go_at_call 185;refine HPW.out.mono ?_;rintro e w1 ⟨rfl,rfl⟩;clear HPW)|(go_at_call 44;refine(H2.out _ HW1.out).mono ?_;rintro e w2 ⟨rfl,hb⟩;have HS2:=YV (HW1.out.later hb);have HR2:=YV (HR1.out.below hb HR1.out.lt);have HG2:=YV (za HG1.out (zb hb b));clear hb H2)|(go_at_call 145;refine(HEN.out _ HS2.out).mono ?_;rintro e w3 ⟨rfl,g1,g2⟩;have hgz:=HG2.out.size;have HS3:=YV g2;have HG3:=YV (za HG2.out g1);have HR3:=YV (HR2.out.grown g1 (fun e=>by injection e with e;omega));obtain⟨i3,op3,k3,a3,hr3,ha3⟩:=g2.row_;have HRW3:=YV hr3;have HA3:=YV ha3;have c13:=hr3.cell 1;have f13:=hr3.free 1;simp[zg] at c13;clear g1 g2 hr3 ha3 HEN))
     clear HW1 HR1 HG1 HG HS
     go_upto_region 7 with fail
     have HS4:Hid (Rs g c ts (w3.setCell ⟨b,1,none⟩ (.int .i64 (wrap64 (i3+1)))) b o1 (jN σ1)):=YV (HS3.out.inc HRW3.out HA3.out HW.out)
     have hgs:w3.grownBy (w3.setCell ⟨b,1,none⟩ (.int .i64 (wrap64 (i3+1)))) (some b):=zf (zd w3 b) 1 _
     have HG4:=YV (za HG3.out hgs)
     have HR4:=YV (HR3.out.grown hgs (fun e=>by injection e with e;omega))
     clear hgs c13 f13 HRW3 HA3 HS3 HG3 HR3
     generalize w3.setCell ⟨b,1,none⟩ (.int .i64 (wrap64 (i3+1)))=v3 at HS4 HG4 HR4 ⊢
     by_cases h4:400≤o
     ·obtain⟨e1,e2⟩:=HBAD.out h4
      have HRB:Hid (R=.bad 5 (hdF L)):=YV (by rw[HRY.out,e2];rfl)
      have hs4:=HS4.out
      rw[e1] at hs4
      have HS5:Hid (Rs g c ts v3 b o (.bad 5 (hdF L))):=YV (Rs.gone hs4 ho4)
      obtain⟨i4,op4,k4,a4,hr4,ha4⟩:=hs4.row_
      obtain⟨rfl,rfl⟩:=ha4
      have c34:=hr4.cell 3
      simp[zg] at c34
      have HROW:=HR4.out
      clear hr4 hs4 e1 e2 HPZ HRY
      go_wp2_with (refine wpList_store_row (o:=⟨none,Op.store _ _ _,_,_,_,_⟩) rfl _ _ _ rfl q (x5 (.mk 0 0 0 [] []) none 0) rfl rfl _ _ HROW zo rfl (jf _ _ _) ?_)
      obtain⟨t1,t2⟩:=HFIN.out _ (.mk 0 0 0 [] []) none 0 _ HG4.out HROW (.inl rfl) (by rw[HRB.out];exact HS5.out) (fun y L' e=>by rw[HRB.out] at e;cases e)
      first|(exact bodyPost_ret (results_cell_row rfl _ _ q _ _ _ _ rfl t1 Tryz.underlying52 rfl zo) rfl t2)|(rw[← HQ.out] at t2;exact bodyPost_ret (results_cell_row rfl _ _ q _ _ _ _ rfl t1 Tryz.underlying52 rfl zo) rfl t2)
     ·have e1:=HOK.out (by omega)
      have hs4:=HS4.out
      rw[e1] at hs4
      obtain⟨i4,op4,k4,a4,hr4,ha4⟩:=hs4.row_
      obtain⟨rfl,rfl,_⟩:=ha4
      have c34:=hr4.cell 3
      simp[zg] at c34
      clear hr4 hs4 e1
      go_upto_region 10 with (go_at_call 166;refine(HPZ.out _ HS4.out).mono ?_;rintro e w5 ⟨y,v,rfl,⟨Ay,cy,rfl,hk⟩,g1,g2,g3⟩;have hgz4:=HG4.out.size;have HS5:Hid (Rs g c ts (w5.alloc (.cells #[.int .i64 y.k,.int .i64 y.o,.int .i64 y.n,.string ⟨y.s.toArray⟩,.slice Ay y.ks.length cy] 52)) b o1 ry.unit):=YV (g2.later ((Below.refl _ _).alloc (Nat.le_refl _) _));have HG5:Hid (v0.grownBy (w5.alloc (.cells #[.int .i64 y.k,.int .i64 y.o,.int .i64 y.n,.string ⟨y.s.toArray⟩,.slice Ay y.ks.length cy] 52)) (some b)):=YV (zi (za HG4.out g1) _);have HR5:=YV ((HR4.out.grown g1 (fun e=>by injection e with e;omega)).alloc (.cells #[.int .i64 y.k,.int .i64 y.o,.int .i64 y.n,.string ⟨y.s.toArray⟩,.slice Ay y.ks.length cy] 52));have HBY5:Hid (BoxR b v0.heap.size y Ay cy w5.heap.size (w5.alloc (.cells #[.int .i64 y.k,.int .i64 y.o,.int .i64 y.n,.string ⟨y.s.toArray⟩,.slice Ay y.ks.length cy] 52))):=YV (BoxR.made hbv HG4.out.size g1 hk);have HVY:=YV g3;clear g1 g2 g3 hk HPZ)
      generalize w5.alloc (.cells #[.int .i64 y.k,.int .i64 y.o,.int .i64 y.n,.string ⟨y.s.toArray⟩,.slice Ay y.ks.length cy] 52)=v5 at HS5 HG5 HR5 HBY5 ⊢
      obtain⟨py,hpy⟩:∃ p,p=w5.heap.size:=⟨_,rfl⟩
      rw[← hpy] at HBY5 ⊢
      clear hpy c34
      obtain⟨i5,op5,k5,a5,hr5,ha5⟩:=HS5.out.row_
      have HRW5:=YV hr5
      have HA5:=YV ha5
      have c25:=hr5.cell 2
      have f25:=hr5.free 2
      simp[zg] at c25
      clear hr5 ha5
      go_upto_region 11 with fail
      have HS6:Hid (Rs g c ts (v5.setCell ⟨b,2,none⟩ (.int .i64 (wrap64 (op5 - 1)))) b o ry.unit):=YV (by
       have h5:=HS5.out
       have ha:=HA5.out
       rw[HO1.out] at h5 ha
       exact h5.dec HRW5.out ha ho4 (fun M e=>by omega))
      have hgs:v5.grownBy (v5.setCell ⟨b,2,none⟩ (.int .i64 (wrap64 (op5 - 1)))) (some b):=zf (zd v5 b) 2 _
      have HG6:=YV (za HG5.out hgs)
      have hgz5:=HG5.out.size
      have hrw:=HR5.out.grown hgs (fun e=>by injection e with e;omega)
      have HBY6:=YV (HBY5.out.grow hgs)
      clear hgs c25 f25 HRW5 HA5 HR5
      generalize v5.setCell ⟨b,2,none⟩ (.int .i64 (wrap64 (op5 - 1)))=v6 at HS6 HG6 hrw HBY6 ⊢
      obtain⟨y0,y1,y2,y3,y4,y5⟩:=HBY6.out.cells
      have HROW:=hrw.alloc (.cells (x5 y Ay cy) 52)
      unfold x5 at HROW
      go_wp2_with (refine wpList_store_row (o:=⟨none,Op.store _ _ _,_,_,_,_⟩) rfl _ _ _ rfl q (x5 (.mk 3 2 0 [] [y]) (some ⟨v6.heap.size,0,none⟩) 1) rfl rfl _ _ HROW zo rfl (jf _ _ _) ?_)
      have hks:=kQ (c:=cy) (fun m hm=>hm.2) HBY6.out.up
      have hrl:=hrw.lt
      obtain⟨t1,t2⟩:=HFIN.out _ (.mk 3 2 0 [] [y]) _ 1 _ (zi HG6.out (.cells (x5 y Ay cy) 52)) HROW (hks.move fun m hm=>⟨by
       rcases hm with hm | hm
       ·exact⟨by have:=hm.1;have:=HZ0.out;have:=HQ.out;omega,by have:=hm.2;simp;omega⟩
       ·exact⟨by omega,by rw[hm];simp⟩,rfl⟩) (by rw[HRY.out,Pr.unit_map ry fun y=>X.mk 3 2 0 [] [y]];exact HS6.out.later ((Below.refl _ _).alloc (Nat.le_refl _) _)) (by rw[HRY.out];exact Pr.val_map HVY.out fun y=>X.mk 3 2 0 [] [y])
      first|(exact bodyPost_ret (results_cell_row rfl _ _ q _ _ _ _ rfl t1 Tryz.underlying52 rfl zo) rfl t2)|(rw[← HQ.out] at t2;exact bodyPost_ret (results_cell_row rfl _ _ q _ _ _ _ rfl t1 Tryz.underlying52 rfl zo) rfl t2)
end Go.Proofs.YtdabndiaflagpaaGreatDoor
