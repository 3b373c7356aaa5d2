/- Parts: PsY3. -/
import Derived.Test.YtdabndiaflagpaaGreatDoorK25
set_option maxRecDepth 100000
set_option maxHeartbeats 4000000
namespace Go.Proofs.YtdabndiaflagpaaGreatDoor
open Go.RowKit
def Todo (R:Pr X) (m n o:Nat) (x:X) (σ:Pr Unit) (opv:Int):Prop:=
 (opv = -1∧R.unit=σ∧∀ y L,R=.ok y L→x=y)∨
 ∃ f L op,opv=op∧0≤op∧σ=.ok () L∧hdT L≠[]∧16 * L.length+2≤f∧f+1≤m∧
  R=(z8 f n L o).bind fun y L'=>if uP n=true then jz f n (.mk 4 op 0 [] [x,y]) L' o else .ok (.mk 4 op 0 [] [x,y]) L'
theorem opP_pos {n:Nat} {L:List Tk} {op:Int} (h:opP n L=some op):0≤op:=by
 unfold opP at h
 obtain⟨p,hp,he⟩:=Option.map_eq_some_iff.1 h
 have hm:=List.mem_of_find?_eq_some hp
 have:∀ n:Nat,∀ p∈opsP n,0≤p.2:=by
  intro n
  unfold opsP
  split <;> decide
 rw[← he];exact this n p hm
theorem qD {R:Pr X} {f n o:Nat} {x:X} {σ:Pr Unit} (hn:n<7) (hf:∀ L,σ=.ok () L→16 * L.length+3≤f) (h:R=σ.bind fun _ L=>jz f n x L o):Todo R f n o x σ (vC (n:Int) σ vc 0):=by
 cases σ with
 | bad c a=>
  rw[qT]
  exact .inl ⟨rfl,by rw[h];rfl,fun y L e=>by rw[h] at e;cases e⟩
 | ok u L=>
  have hf:=hf L rfl
  obtain⟨f,rfl⟩:∃ f',f=f'+1:=⟨f - 1,by omega⟩
  rw[Yu L n hn]
  have h:R=jz (f+1) n x L o:=h
  rw[jz] at h
  cases hop:opP n L with
  | none=>
   rw[hop] at h
   exact .inl ⟨rfl,by rw[h];rfl,fun y L e=>by rw[h] at e;injection e⟩
  | some op=>
   rw[hop] at h
   exact .inr ⟨f,L,op,rfl,opP_pos hop,rfl,uT hop,by omega,Nat.le_refl _,h⟩
theorem left_of {n:Nat} (hn:n<7):(n<2→uP n=false)∧(n=4→uP n=false)∧(2≤n→n≠4→uP n=true):=by
 have:n=0∨n=1∨n=2∨n=3∨n=4∨n=5∨n=6:=by omega
 rcases this with rfl | rfl | rfl | rfl | rfl | rfl | rfl <;> decide
theorem rLevel (g c:Nat) (ts:List Tk) (b f o n:Nat) (L:List Tk) (w:World) (ih:∀ f',f'≤f→RE g c ts b f') (hf:16 * L.length+13≤f+1+n) (hn:n≤7) (h:Rs g c ts w b o (.ok () L)) :
  Calls Tryz.prog 144 #[.pointer (some ⟨b,0,none⟩),.int .i64 (n:Int)] w (RRes g c ts b o w (XV w.heap.size) (zL (f+1) n L o)):=by
 obtain⟨R,hR⟩:∃ R,R=zL (f+1) n L o:=⟨_,rfl⟩
 rw[← hR]
 rw[zL] at hR
 have hlt:=h.lt
 have ho4:=h.open_
 have hwf:WFt L:=h.good_
 obtain⟨v0,hv0⟩:∃ v,v=w.alloc (.cells #[.int .i64 0,.int .i64 0,.int .i64 0,.string ⟨#[]⟩,.slice none 0 0] 52):=⟨_,rfl⟩
 have hv:Below w.heap.size w v0:=by rw[hv0];exact(Below.refl _ _).alloc (Nat.le_refl _) _
 have HV:=YV hv
 have hz0:v0.heap.size=w.heap.size+1:=by rw[hv0];simp
 have HZ0:=YV hz0
 have HR:Hid (Row v0 w.heap.size 52 z5):=YV (by rw[hv0];exact Row.made _ _ _)
 have HS0:Hid (Rs g c ts v0 b o (.ok () L)):=YV (h.later hv)
 obtain⟨i0,op0,k0,a0,hrow0,hat0⟩:=(h.later hv).row_
 obtain⟨rfl,_⟩:=hat0
 have c30:=hrow0.cell 3
 simp[zg] at c30
 obtain⟨q,hq⟩:∃ q,q=w.heap.size:=⟨_,rfl⟩
 have HQ:=YV hq
 rw[← hq] at HR hz0 hlt
 have hqb:q≠b:=by omega
 have hqv:q<v0.heap.size:=by omega
 have hbv:b<v0.heap.size:=by omega
 have HFIN:Hid (∀ (wk:World) (x:X) (A:Option Addr) (cx:Nat) (old:Array Value),v0.grownBy wk (some b)→Row wk q 52 old→KS wk (Bt (q+1) wk.heap.size) A x.ks→Rs g c ts wk b o R.unit→(∀ y L,R=.ok y L→x=y)→_):=YV fun wk x A cx old h1 h2 h3 h4 h5=>vX (cx:=cx) hq (by omega) hv h1 h2 h3 h4 h5
 clear hrow0
 by_cases h7:n=7
 ·subst h7
  rw[if_pos rfl] at hR
  have HPX:Hid (∀ w1,Rs g c ts w1 b o (.ok () L)→Calls Tryz.prog 166 #[.pointer (some ⟨b,0,none⟩)] w1 (RRes g c ts b o w1 (XV w1.heap.size) R)):=YV fun w1 h1=>by rw[hR];exact(ih f (Nat.le_refl _)).pre o L w1 (by omega) h1
  clear hR hf h hv ih hz0 hn hwf ho4
  go_enter Tryz.func144,Tryz.ntmps144
  go_upto_region 1 with fail
  rw[← hv0,← hq]
  clear hv0 hq
  go_wp2_with (first|(go_at_call 166;refine(HPX.out _ HS0.out).mono ?_;rintro e w2 ⟨x,v,rfl,⟨A,c',rfl,hk⟩,g1,g2,g3⟩;have HX:=YV hk;have HG2:=YV g1;have HS2:=YV g2;have HVX:=YV g3;have HROW:=HR.out.grown g1 (fun e=>by injection e with e;omega);clear g1 g2 g3 hk HPX)|(refine wpList_store_row (o:=⟨none,Op.store _ _ _,_,_,_,_⟩) rfl _ _ _ rfl q (x5 x A c') rfl rfl _ _ HROW zo rfl (jf x A c') ?_))
  obtain⟨t1,t2⟩:=HFIN.out _ x A c' _ HG2.out HROW (HX.out.move fun m hm=>⟨⟨by have:=hm.1;have:=HZ0.out;have:=HQ.out;omega,hm.2⟩,rfl⟩) HS2.out HVX.out
  exact bodyPost_ret (results_cell_row rfl _ _ q _ _ _ _ rfl t1 Tryz.underlying52 rfl zo) rfl t2
 ·rw[if_neg h7] at hR
  have hn7:n<7:=by omega
  have hne7:((n:Int) == 7)=false:=beq_eq_false_iff_ne.2 (by omega)
  have hen:((n+1:Nat):Int)=(n:Int)+1:=by omega
  obtain⟨r0,hr0⟩:∃ r0,r0=zL f (n+1) L o:=⟨_,rfl⟩
  have HLV:Hid (∀ w1,Rs g c ts w1 b o (.ok () L)→Calls Tryz.prog 144 #[.pointer (some ⟨b,0,none⟩),.int .i64 ((n:Int)+1)] w1 (RRes g c ts b o w1 (XV w1.heap.size) r0)):=YV fun w1 h1=>by rw[hr0,← hen];exact(ih f (Nat.le_refl _)).level o (n+1) L w1 (by omega) (by omega) h1
  have HTD:Hid (∀ x,(∀ y L,r0=.ok y L→x=y)→Todo R f n o x r0.unit (vC (n:Int) r0.unit vc 0)):=YV fun x hx=>by
   refine qD hn7 (fun M e=>?_) ?_
   ·cases hh:r0 with
    | bad k a=>rw[hh] at e;cases e
    | ok y K=>
     rw[hh] at e
     obtain rfl:K=M:=by injection e
     have:=((jD f).level (n+1) L o hwf y K (by rw[← hr0];exact hh)).2
     omega
   ·rw[hR,← hr0];exact Pr.seq hx fun x L=>jz f n x L o
  have HOP:Hid (∀ σ w1,Rs g c ts w1 b o σ→_):=YV fun σ w1 h1=>rOp g c ts b o n σ w1 h1
  have HIH:=YV ih
  have HLF:=YV (left_of hn7)
  have HEN:=YV hen
  have hni:(n:Int)<7:=by omega
  have hn0:(0:Int)≤(n:Int):=by omega
  clear hR hf h hv ih hz0 hn hwf hr0 h7 hen
  go_enter Tryz.func144,Tryz.ntmps144
  go_upto_region 1 with fail
  rw[← hv0,← hq]
  clear hv0 hq
  go_upto_region 6 with (go_at_call 144;refine(HLV.out _ HS0.out).mono ?_;rintro e w1 ⟨x,v,rfl,⟨Ax,cx,rfl,hk⟩,g1,g2,g3⟩;have HS1:Hid (Rs g c ts (w1.alloc (.cells #[.int .i64 x.k,.int .i64 x.o,.int .i64 x.n,.string ⟨x.s.toArray⟩,.slice Ax x.ks.length cx] 52)) b o r0.unit):=YV (g2.later ((Below.refl _ _).alloc (Nat.le_refl _) _));have HG1:Hid (v0.grownBy (w1.alloc (.cells #[.int .i64 x.k,.int .i64 x.o,.int .i64 x.n,.string ⟨x.s.toArray⟩,.slice Ax x.ks.length cx] 52)) (some b)):=YV (zi g1 _);have HBX1:Hid (BoxR b v0.heap.size x Ax cx w1.heap.size (w1.alloc (.cells #[.int .i64 x.k,.int .i64 x.o,.int .i64 x.n,.string ⟨x.s.toArray⟩,.slice Ax x.ks.length cx] 52))):=YV (BoxR.made hbv (Nat.le_refl _) g1 hk);have HTD1:=YV (HTD.out x g3);clear g1 g2 g3 hk HLV HTD)
  generalize w1.alloc (.cells #[.int .i64 x.k,.int .i64 x.o,.int .i64 x.n,.string ⟨x.s.toArray⟩,.slice Ax x.ks.length cx] 52)=v1 at HS1 HG1 HBX1 ⊢
  obtain⟨p,hp⟩:∃ p,p=w1.heap.size:=⟨_,rfl⟩
  rw[← hp] at HBX1 ⊢
  clear hp
  have hpq:q+1≤p:=by have:=HBX1.out.le;have:=HZ0.out;have:=HQ.out;omega
  obtain⟨opv,hopv⟩:∃ z,z=vC (n:Int) r0.unit vc 0:=⟨_,rfl⟩
  have HOP1:Hid (∀ w1,Rs g c ts w1 b o r0.unit→Calls Tryz.prog 167 #[.pointer (some ⟨b,0,none⟩),.int .i64 (n:Int)] w1 fun e w'=>e=.returned (.int .i64 opv)∧Below w1.heap.size w1 w'):=YV fun w1 h1=>by rw[hopv];exact HOP.out r0.unit w1 h1
  rw[← hopv] at HTD1
  clear hopv
  go_upto_region 7 with (go_at_call 167;refine(HOP1.out _ HS1.out).mono ?_;rintro e w2 ⟨rfl,hb⟩;have HS2:=YV (HS1.out.later hb);have HG2:Hid (v0.grownBy w2 (some b)):=YV (za HG1.out (zb hb b));have HBX2:=YV (HBX1.out.below hb);clear hb HOP1)
  clear HS1 HG1 HBX1
  rcases HTD1.out with ⟨h1,hu,hval⟩ | ⟨f1,L1,op,h1,hop0,hσ,hne,hfu,hfm,hRR⟩
  ·have HU:=YV hu
   have HVAL:=YV hval
   subst h1
   clear hu hval HTD1 HOP
   go_wp2_with fail
   go_loopg [6] 0 (fun _ v wr=>v=.int .i64 (-1)∧w2=wr)
   case atStart=>exact⟨rfl,rfl⟩
   case round=>
    obtain⟨rfl,rfl⟩:=hrel
    obtain⟨y0,y1,y2,y3,y4,y5⟩:=HBX2.out.cells
    have HROW:=HR.out.grown HG2.out (fun e=>by injection e with e;omega)
    go_wp2_with (refine wpList_store_row (o:=⟨none,Op.store _ _ _,_,_,_,_⟩) rfl _ _ _ rfl q (x5 (x) Ax cx) rfl rfl _ _ HROW zo rfl (jf _ _ _) ?_)
    obtain⟨t1,t2⟩:=HFIN.out _ x Ax cx _ HG2.out HROW (HBX2.out.up.move fun m hm=>⟨⟨by have:=hm.1;have:=HZ0.out;have:=HQ.out;omega,hm.2⟩,rfl⟩) (by rw[HU.out];exact HS2.out) HVAL.out
    exact bodyPost_ret (results_cell_row rfl _ _ q _ _ _ _ rfl t1 Tryz.underlying52 rfl zo) rfl t2
  ·replace h1:=h1.symm
   subst h1
   by_cases hn2:n<2
   ·have hni2:(n:Int)<2:=by omega
    obtain⟨f2,rfl⟩:∃ f',f1=f'+1:=⟨f1 - 1,by omega⟩
    rw[hσ] at HS2
    have hw1:WFt L1:=HS2.out.good_
    have ht1:=jS hw1 (.inl hne)
    rw[z8,if_pos hn2,uF (fun o L=>zL f2 n L o),HLF.out.1 hn2] at hRR
    obtain⟨σ1,hσ1⟩:∃ σ1,σ1=jP o (.ok () L1):=⟨_,rfl⟩
    have HEN2:Hid (∀ w1,Rs g c ts w1 b o (.ok () L1)→_):=YV fun w1 h1=>qg g c ts b o (.ok () L1) w1 h1
    rw[← hσ1] at hRR HEN2
    have HW1:Hid (∀ M,σ1=.ok () M→WFt M.tail):=YV fun M e=>by
     rw[hσ1] at e
     obtain⟨_,h2⟩:=ue e
     injection h2 with _ h2
     rw[← h2];exact ht1.1
    have hles:LeS L1.tail.length (jN σ1):=by rw[hσ1];exact LeS.pass (Nat.le_refl _)
    obtain⟨ry,hry⟩:∃ ry,ry=(jN σ1).bind fun _ L=>zL f2 n L (more o):=⟨_,rfl⟩
    have HLY:Hid (∀ w1,Rs g c ts w1 b (more o) (jN σ1)→Calls Tryz.prog 144 #[.pointer (some ⟨b,0,none⟩),.int .i64 (n:Int)] w1 (RRes g c ts b (more o) w1 (XV w1.heap.size) ry)):=YV fun w1 h1=>by
     rw[hry]
     exact Ye (HIH.out f2 (by omega)) (fun M e=>by have:=hles M e;have:=ht1.2;omega) (by omega) h1
    rw[← hry] at hRR
    have HRR:Hid (∀ y,(∀ v L,ry=.ok v L→y=v)→R.unit=ry.unit∧∀ z L,R=.ok z L→X.mk 4 op 0 [] [x,y]=z):=YV fun y hy=>by
     have e:R=ry.bind fun y L'=>.ok (X.mk 4 op 0 [] [x,y]) L':=by rw[hRR];rfl
     rw[e]
     exact⟨Pr.unit_map ry fun y=>X.mk 4 op 0 [] [x,y],Pr.val_map hy fun y=>X.mk 4 op 0 [] [x,y]⟩
    have HDE:Hid (∀ M,ry.unit=.ok () M→o<400):=YV fun M e=>by
     by_cases h4:400≤o
     ·have e1:σ1=.bad 5 (hdF L1):=by rw[hσ1];show (if 400≤o then (zC 5 L1:Pr Unit) else .ok () L1)=_;rw[if_pos h4];rfl
      rw[hry,e1] at e
      cases e
     ·omega
    obtain⟨o1,ho1⟩:∃ o1,o1=more o:=⟨_,rfl⟩
    have HO1:=YV ho1
    rw[← ho1] at HEN2 HLY
    clear hn2 hσ hne hfu hfm hRR hw1 ht1 hσ1 hles hry ho1 HTD1 HOP HIH HLF
    go_upto_region 9 with (go_at_call 145;refine(HEN2.out _ HS2.out).mono ?_;rintro e w3 ⟨rfl,g1,g2⟩;have HS3:=YV g2;have HG3:=YV (za HG2.out g1);have HBX3:=YV (HBX2.out.grow g1);obtain⟨i3,op3,k3,a3,hr3,ha3⟩:=g2.row_;have HR3:=YV hr3;have HA3:=YV ha3;have c13:=hr3.cell 1;have f13:=hr3.free 1;simp[zg] at c13;clear g1 g2 hr3 ha3 HEN2)
    go_upto_region 10 with fail
    have HS4:Hid (Rs g c ts (w3.setCell ⟨b,1,none⟩ (.int .i64 (wrap64 (i3+1)))) b o1 (jN σ1)):=YV (HS3.out.inc HR3.out HA3.out HW1.out)
    have hgs:w3.grownBy (w3.setCell ⟨b,1,none⟩ (.int .i64 (wrap64 (i3+1)))) (some b):=zf (zd w3 b) 1 _
    have HG4:=YV (za HG3.out hgs)
    have HBX4:=YV (HBX3.out.grow hgs)
    clear hgs c13 f13 HR3 HA3
    generalize w3.setCell ⟨b,1,none⟩ (.int .i64 (wrap64 (i3+1)))=v3 at HS4 HG4 HBX4 ⊢
    go_upto_region 11 with (go_at_call 144;refine(HLY.out _ HS4.out).mono ?_;rintro e w5 ⟨y,v,rfl,⟨Ay,cy,rfl,hk⟩,g1,g2,g3⟩;have HS5:Hid (Rs g c ts (w5.alloc (.cells #[.int .i64 y.k,.int .i64 y.o,.int .i64 y.n,.string ⟨y.s.toArray⟩,.slice Ay y.ks.length cy] 52)) b o1 ry.unit):=YV (g2.later ((Below.refl _ _).alloc (Nat.le_refl _) _));have HG5:Hid (v0.grownBy (w5.alloc (.cells #[.int .i64 y.k,.int .i64 y.o,.int .i64 y.n,.string ⟨y.s.toArray⟩,.slice Ay y.ks.length cy] 52)) (some b)):=YV (zi (za HG4.out g1) _);have HBX5:=YV ((HBX4.out.grow g1).alloc (.cells #[.int .i64 y.k,.int .i64 y.o,.int .i64 y.n,.string ⟨y.s.toArray⟩,.slice Ay y.ks.length cy] 52));have HBY5:Hid (BoxR b v0.heap.size y Ay cy w5.heap.size (w5.alloc (.cells #[.int .i64 y.k,.int .i64 y.o,.int .i64 y.n,.string ⟨y.s.toArray⟩,.slice Ay y.ks.length cy] 52))):=YV (BoxR.made hbv HG4.out.size g1 hk);have HVY:=YV (HRR.out y g3);clear g1 g2 g3 hk HLY)
    generalize w5.alloc (.cells #[.int .i64 y.k,.int .i64 y.o,.int .i64 y.n,.string ⟨y.s.toArray⟩,.slice Ay y.ks.length cy] 52)=v5 at HS5 HG5 HBX5 HBY5 ⊢
    obtain⟨py,hpy⟩:∃ p,p=w5.heap.size:=⟨_,rfl⟩
    rw[← hpy] at HBY5 ⊢
    clear hpy
    obtain⟨i5,op5,k5,a5,hr5,ha5⟩:=HS5.out.row_
    have HR5:=YV hr5
    have HA5:=YV ha5
    have c25:=hr5.cell 2
    have f25:=hr5.free 2
    simp[zg] at c25
    clear hr5 ha5
    go_upto_region 12 with fail
    have HS6:Hid (Rs g c ts (v5.setCell ⟨b,2,none⟩ (.int .i64 (wrap64 (op5 - 1)))) b o ry.unit):=YV (by
     have h5:=HS5.out
     have ha:=HA5.out
     rw[HO1.out] at h5 ha
     exact h5.dec HR5.out ha ho4 HDE.out)
    have hgs:v5.grownBy (v5.setCell ⟨b,2,none⟩ (.int .i64 (wrap64 (op5 - 1)))) (some b):=zf (zd v5 b) 2 _
    have HG6:=YV (za HG5.out hgs)
    have HBX6:=YV (HBX5.out.grow hgs)
    have HBY6:=YV (HBY5.out.grow hgs)
    clear hgs c25 f25 HR5 HA5
    generalize v5.setCell ⟨b,2,none⟩ (.int .i64 (wrap64 (op5 - 1)))=v6 at HS6 HG6 HBX6 HBY6 ⊢
    obtain⟨x0,x1,x2,x3,x4,x5'⟩:=HBX6.out.cells
    obtain⟨y0,y1,y2,y3,y4,y5⟩:=HBY6.out.cells
    have hrw:=HR.out.grown HG6.out (fun e=>by injection e with e;omega)
    have HROW:=hrw.alloc (.cells (r2 x Ax cx y Ay cy) 52)
    unfold r2 at HROW
    go_wp2_with (refine wpList_store_row (o:=⟨none,Op.store _ _ _,_,_,_,_⟩) rfl _ _ _ rfl q (x5 (.mk 4 op 0 [] [x,y]) (some ⟨v6.heap.size,0,none⟩) 2) rfl rfl _ _ HROW zo rfl (jf _ _ _) ?_)
    have hks:=Yi (c:=cx) (c':=cy) (fun m hm=>hm.2) HBX6.out.up HBY6.out.up
    obtain⟨t1,t2⟩:=HFIN.out _ (.mk 4 op 0 [] [x,y]) _ 2 _ (zi HG6.out (.cells (r2 x Ax cx y Ay cy) 52)) HROW (hks.move fun m hm=>⟨by
     rcases hm with hm | hm
     ·exact⟨by have:=hm.1;have:=HZ0.out;have:=HQ.out;omega,by have:=hm.2;simp;omega⟩
     ·exact⟨by have:=hrw.lt;omega,by rw[hm];simp⟩,rfl⟩) (by rw[HVY.out.1];exact HS6.out.later ((Below.refl _ _).alloc (Nat.le_refl _) _)) HVY.out.2
    exact bodyPost_ret (results_cell_row rfl _ _ q _ _ _ _ rfl t1 Tryz.underlying52 rfl zo) rfl t2
   ·have hni2:¬ (n:Int)<2:=by omega
    have HN2:Hid (2≤n):=YV (by omega)
    have HTD2:Hid (Todo R f n o x r0.unit op):=HTD1
    clear hn2 hσ hne hfu hfm hRR HTD1
    go_wp2_with fail
    clear hop0
    go_loopg [6] f (fun g' v wr=>∃ (xi:X) (A:Option Addr) (ci:Nat) (σ:Pr Unit) (opi:Int),v=.int .i64 opi∧g'≤f∧Todo R g' n o xi σ opi∧Rs g c ts wr b o σ∧v0.grownBy wr (some b)∧BoxR b v0.heap.size xi A ci p wr)
    case atStart=>exact⟨x,Ax,cx,_,op,rfl,Nat.le_refl _,HTD2.out,HS2.out,HG2.out,HBX2.out⟩
    case round=>
     obtain⟨xi,A,ci,σ,opi,rfl,hgf,htd,hst,hgr,hbx⟩:=hrel
     have HST:=YV hst
     have HGR:=YV hgr
     have HBX:=YV hbx
     rcases htd with ⟨h1,hu,hval⟩ | ⟨f1,L1,opj,h1,hop0,hσ,hne,hfu,hfm,hRR⟩
     ·have HU:=YV hu
      have HVAL:=YV hval
      subst h1
      obtain⟨y0,y1,y2,y3,y4,y5⟩:=hbx.cells
      have HROW:=HR.out.grown hgr (fun e=>by injection e with e;omega)
      clear hu hval hst hgr hbx
      go_wp2_with (refine wpList_store_row (o:=⟨none,Op.store _ _ _,_,_,_,_⟩) rfl _ _ _ rfl q (x5 (xi) A ci) rfl rfl _ _ HROW zo rfl (jf _ _ _) ?_)
      obtain⟨t1,t2⟩:=HFIN.out _ xi A ci _ HGR.out HROW (HBX.out.up.move fun m hm=>⟨⟨by have:=hm.1;have:=HZ0.out;have:=HQ.out;omega,hm.2⟩,rfl⟩) (by rw[HU.out];exact HST.out) HVAL.out
      exact bodyPost_ret (results_cell_row rfl _ _ q _ _ _ _ rfl t1 Tryz.underlying52 rfl zo) rfl t2
     ·subst h1 hσ
      obtain⟨f2,rfl⟩:∃ f',f1=f'+1:=⟨f1 - 1,by omega⟩
      have ht1:=jS hst.good_ (.inl hne)
      rw[z8,if_neg (by have:=HN2.out;omega)] at hRR
      obtain⟨ry,hry⟩:∃ ry,ry=zL f2 (n+1) L1.tail o:=⟨_,rfl⟩
      rw[← hry] at hRR
      have HLY:Hid (∀ w1,Rs g c ts w1 b o (.ok () L1.tail)→Calls Tryz.prog 144 #[.pointer (some ⟨b,0,none⟩),.int .i64 ((n:Int)+1)] w1 (RRes g c ts b o w1 (XV w1.heap.size) ry)):=YV fun w1 h1=>by
       rw[hry,← HEN.out]
       exact(HIH.out f2 (by omega)).level o (n+1) L1.tail w1 (by have:=ht1.2;omega) (by omega) h1
      have HWT:Hid (∀ L',(.ok () L1:Pr Unit)=.ok () L'→WFt L'.tail):=YV fun L' e=>by injection e with _ e;rw[← e];exact ht1.1
      have HNX:Hid (∀ y,(∀ v L,ry=.ok v L→y=v)→Todo R (f2+1) n o (.mk 4 opi 0 [] [xi,y]) ry.unit (if n=4 then -1 else vC (n:Int) ry.unit vc 0)):=YV fun y hy=>by
       by_cases h4:n=4
       ·rw[if_pos h4]
        have hlf:=HLF.out.2.1 h4
        have e:R=ry.bind fun y L'=>.ok (X.mk 4 opi 0 [] [xi,y]) L':=by rw[hRR,hlf];rfl
        exact .inl ⟨rfl,by rw[e];exact Pr.unit_map ry fun y=>X.mk 4 opi 0 [] [xi,y],by rw[e];exact Pr.val_map hy fun y=>X.mk 4 opi 0 [] [xi,y]⟩
       ·rw[if_neg h4]
        have hlf:=HLF.out.2.2 HN2.out h4
        have e:R=ry.bind fun y L'=>jz (f2+1) n (.mk 4 opi 0 [] [xi,y]) L' o:=by rw[hRR,hlf];rfl
        refine qD hn7 (fun M em=>?_) (by rw[e];exact Pr.seq hy fun y L'=>jz (f2+1) n (.mk 4 opi 0 [] [xi,y]) L' o)
        cases hh:ry with
        | bad k a=>rw[hh] at em;cases em
        | ok v K=>
         rw[hh] at em
         obtain rfl:K=M:=by injection em
         have:=((jD f2).level (n+1) L1.tail o ht1.1 v K (by rw[← hry];exact hh)).2
         have:=ht1.2
         omega
      obtain⟨i2,op2,k2,a2,hr2,ha2⟩:=hst.row_
      have HR2:=YV hr2
      have HA2:=YV ha2
      have c12:=hr2.cell 1
      have f12:=hr2.free 1
      simp[zg] at c12
      have hgk:f2+1+1≤gk:=hfm
      clear hst hgr hbx hne hfu hfm hRR hry ht1 hr2 ha2 HTD2
      go_upto_region 15 with fail
      have HS4:Hid (Rs g c ts (wr.setCell ⟨b,1,none⟩ (.int .i64 (wrap64 (i2+1)))) b o (.ok () L1.tail)):=YV (HST.out.inc HR2.out HA2.out HWT.out)
      have hgs:wr.grownBy (wr.setCell ⟨b,1,none⟩ (.int .i64 (wrap64 (i2+1)))) (some b):=zf (zd wr b) 1 _
      have HG4:=YV (za HGR.out hgs)
      have HBX4:=YV (HBX.out.grow hgs)
      clear hgs c12 f12 HR2 HA2
      generalize wr.setCell ⟨b,1,none⟩ (.int .i64 (wrap64 (i2+1)))=v3 at HS4 HG4 HBX4 ⊢
      go_upto_region 16 with (go_at_call 144;refine(HLY.out _ HS4.out).mono ?_;rintro e w5 ⟨y,v,rfl,⟨Ay,cy,rfl,hk⟩,g1,g2,g3⟩;have hpw:=HBX4.out.row.lt;have HS5:Hid (Rs g c ts (w5.alloc (.cells #[.int .i64 y.k,.int .i64 y.o,.int .i64 y.n,.string ⟨y.s.toArray⟩,.slice Ay y.ks.length cy] 52)) b o ry.unit):=YV (g2.later ((Below.refl _ _).alloc (Nat.le_refl _) _));have HG5:Hid (v0.grownBy (w5.alloc (.cells #[.int .i64 y.k,.int .i64 y.o,.int .i64 y.n,.string ⟨y.s.toArray⟩,.slice Ay y.ks.length cy] 52)) (some b)):=YV (zi (za HG4.out g1) _);have HBX5:=YV ((HBX4.out.grow g1).alloc (.cells #[.int .i64 y.k,.int .i64 y.o,.int .i64 y.n,.string ⟨y.s.toArray⟩,.slice Ay y.ks.length cy] 52));have HBY5:Hid (BoxR b (p+1) y Ay cy w5.heap.size (w5.alloc (.cells #[.int .i64 y.k,.int .i64 y.o,.int .i64 y.n,.string ⟨y.s.toArray⟩,.slice Ay y.ks.length cy] 52))):=YV (BoxR.made (by have:=HBX4.out.le;omega) hpw g1 hk);have HVY:=YV (HNX.out y g3);clear g1 g2 g3 hk hpw HLY HNX)
      generalize w5.alloc (.cells #[.int .i64 y.k,.int .i64 y.o,.int .i64 y.n,.string ⟨y.s.toArray⟩,.slice Ay y.ks.length cy] 52)=v5 at HS5 HG5 HBX5 HBY5 ⊢
      obtain⟨py,hpy⟩:∃ p,p=w5.heap.size:=⟨_,rfl⟩
      rw[← hpy] at HBY5 ⊢
      clear hpy
      obtain⟨x0,x1,x2,x3,x4,x5'⟩:=HBX5.out.cells
      obtain⟨y0,y1,y2,y3,y4,y5⟩:=HBY5.out.cells
      have HBX6:=YV (HBX5.out.alloc (.cells (r2 xi A ci y Ay cy) 52))
      have HROW:=HBX6.out.row
      unfold r2 at HROW
      have hks:=Yi (c:=ci) (c':=cy) (S:=Sb v0.heap.size (some p) v5) (fun m hm=>hm.2.1) HBX5.out.ks (HBY5.out.up.move fun m hm=>⟨⟨by have:=hm.1;have:=HBX5.out.le;omega,hm.2,fun e=>by injection e with e;have:=hm.1;omega⟩,rfl⟩)
      have HBX7:Hid (BoxR b v0.heap.size (.mk 4 opi 0 [] [xi,y]) (some ⟨v5.heap.size,0,none⟩) 2 p ((v5.alloc (.cells (r2 xi A ci y Ay cy) 52)).setRow p (x5 (.mk 4 opi 0 [] [xi,y]) (some ⟨v5.heap.size,0,none⟩) 2))):=YV (HBX6.out.turn (hks.move fun m hm=>⟨by
       rcases hm with hm | hm
       ·exact⟨hm.1,by have:=hm.2.1;simp;omega,hm.2.2⟩
       ·exact⟨by have:=HG5.out.size;omega,by rw[hm];simp,fun e=>by injection e with e;omega⟩,rfl⟩))
      have HG7:Hid (v0.grownBy ((v5.alloc (.cells (r2 xi A ci y Ay cy) 52)).setRow p (x5 (.mk 4 opi 0 [] [xi,y]) (some ⟨v5.heap.size,0,none⟩) 2)) (some b)):=YV (jb (zi HG5.out _) (zj HBX6.out.row) (fun k e=>by injection e with e;have:=HBX6.out.le;omega))
      have HS7:Hid (Rs g c ts ((v5.alloc (.cells (r2 xi A ci y Ay cy) 52)).setRow p (x5 (.mk 4 opi 0 [] [xi,y]) (some ⟨v5.heap.size,0,none⟩) 2)) b o ry.unit):=YV ((HS5.out.later ((Below.refl _ _).alloc (Nat.le_refl _) _)).grown (zj HBX6.out.row) (fun k e=>by injection e with e;have:=HBX6.out.le;omega))
      have HOP2:Hid (∀ w1,Rs g c ts w1 b o ry.unit→_):=YV fun w1 h1=>HOP.out ry.unit w1 h1
      obtain⟨opn,hopn⟩:∃ z,z=vC (n:Int) ry.unit vc 0:=⟨_,rfl⟩
      rw[← hopn] at HOP2 HVY
      clear hopn hks HS5 HG5 HBX5 HBX6
      unfold r2 x5 at HBX7 HG7 HS7
      go_upto_region 17 with (refine wpList_store_row (o:=⟨none,Op.store _ _ _,_,_,_,_⟩) rfl _ _ _ rfl p (x5 (.mk 4 opi 0 [] [xi,y]) (some ⟨v5.heap.size,0,none⟩) 2) rfl rfl _ _ HROW zo rfl (jf _ _ _) ?_)
      go_upto_if 81 with (go_at_call 167;refine(HOP2.out _ HS7.out).mono ?_;rintro e w8 ⟨rfl,hb⟩;have HS8:=YV (HS7.out.later hb);have HG8:=YV (za HG7.out (zb hb b));have HBX8:=YV (HBX7.out.below hb);clear hb HOP2)
      by_cases h4:n=4
      ·have hn4:(n:Int)=4:=by omega
       have HX4:Hid (Todo R (f2+1) n o (.mk 4 opi 0 [] [xi,y]) ry.unit (-1)):=YV (by have:=HVY.out;rw[if_pos h4] at this;exact this)
       clear h4
       go_wp2_with fail
       go_roundg (f2+1)
       case rel=>exact⟨_,_,2,_,-1,rfl,by omega,HX4.out,HS8.out,HG8.out,HBX8.out⟩
       case measure=>omega
      ·have hn4:¬ (n:Int)=4:=by omega
       have HX4:Hid (Todo R (f2+1) n o (.mk 4 opi 0 [] [xi,y]) ry.unit opn):=YV (by have:=HVY.out;rw[if_neg h4] at this;exact this)
       clear h4
       go_wp2_with fail
       go_roundg (f2+1)
       case rel=>exact⟨_,_,2,_,opn,rfl,by omega,HX4.out,HS8.out,HG8.out,HBX8.out⟩
       case measure=>omega
end Go.Proofs.YtdabndiaflagpaaGreatDoor
