/- Parts: Node, PRight. -/
import Derived.Test.YtdabndiaflagpaaGreatDoorK06
set_option maxRecDepth 100000
set_option maxHeartbeats 4000000
namespace Go.Proofs.YtdabndiaflagpaaGreatDoor
open Go.RowKit
noncomputable def vh (n:Nd):Bool:=zB n.name && jH n.ins && ur n.outs.length && jH n.outs && jH n.locals && eqsB n.eqs
noncomputable def vD (l:List Nd):Bool:=l.all vh && fewB l.length
theorem Z2 (b:Nat) (n:Nd) (A1 A2 A3 A4:Option Addr) (c1 c2 c3 c4:Nat) (w:World) (S:Nat→Prop) (hn:okN n) (hw:WM w b) (ht:zR w) (h1:VS w S A1 n.ins) (h2:VS w S A2 n.outs) (h3:VS w S A3 n.locals) (h4:QS w S A4 n.eqs) (hS:∀ b,S b→b<w.heap.size) :
  Calls Tryz.prog 53 #[.map (some b),.agg #[.string ⟨n.name.toArray⟩,.slice A1 n.ins.length c1,.slice A2 n.outs.length c2,.slice A3 n.locals.length c3,.slice A4 n.eqs.length c4]] w fun e w'=>e=.returned (.bool (vh n))∧Below w.heap.size w w':=by
 have HR:Hid (Row (w.alloc (.cells #[.string ⟨n.name.toArray⟩,.slice A1 n.ins.length c1,.slice A2 n.outs.length c2,.slice A3 n.locals.length c3,.slice A4 n.eqs.length c4] 41)) w.heap.size 41 #[.string ⟨n.name.toArray⟩,.slice A1 n.ins.length c1,.slice A2 n.outs.length c2,.slice A3 n.locals.length c3,.slice A4 n.eqs.length c4]):=Row.made _ _ _
 have HA:Hid (Below w.heap.size w (w.alloc (.cells #[.string ⟨n.name.toArray⟩,.slice A1 n.ins.length c1,.slice A2 n.outs.length c2,.slice A3 n.locals.length c3,.slice A4 n.eqs.length c4] 41))):=(Below.refl _ _).alloc (Nat.le_refl _) _
 have hlen:=hn.2.2.1.1
 have HC0:Hid (Calls Tryz.prog 88 #[.map (some b),.string ⟨n.name.toArray⟩] (w.alloc (.cells #[.string ⟨n.name.toArray⟩,.slice A1 n.ins.length c1,.slice A2 n.outs.length c2,.slice A3 n.locals.length c3,.slice A4 n.eqs.length c4] 41)) fun e w'=>e=.returned (.bool (zB n.name))∧Below (w.alloc (.cells #[.string ⟨n.name.toArray⟩,.slice A1 n.ins.length c1,.slice A2 n.outs.length c2,.slice A3 n.locals.length c3,.slice A4 n.eqs.length c4] 41)).heap.size (w.alloc (.cells #[.string ⟨n.name.toArray⟩,.slice A1 n.ins.length c1,.slice A2 n.outs.length c2,.slice A3 n.locals.length c3,.slice A4 n.eqs.length c4] 41)) w'):=vY b n.name _ hn.1 (hw.later HA.out)
 have HC1:Hid (∀ w2,Below (w.alloc (.cells #[.string ⟨n.name.toArray⟩,.slice A1 n.ins.length c1,.slice A2 n.outs.length c2,.slice A3 n.locals.length c3,.slice A4 n.eqs.length c4] 41)).heap.size (w.alloc (.cells #[.string ⟨n.name.toArray⟩,.slice A1 n.ins.length c1,.slice A2 n.outs.length c2,.slice A3 n.locals.length c3,.slice A4 n.eqs.length c4] 41)) w2→Calls Tryz.prog 89 #[.slice A1 n.ins.length c1,.func (.func 90) #[.map (some b)] #[]] w2 fun e w'=>e=.returned (.bool (jH n.ins))∧Below w2.heap.size w2 w'):=fun w2 hb2=>qz b n.ins A1 c1 _ S hn.2.1 (hw.later (HA.out.trans (hb2.mono HA.out.size))) (h1.move (stay hS (HA.out.trans (hb2.mono HA.out.size)))) (jI hS (HA.out.trans (hb2.mono HA.out.size)))
 have HC2:Hid (∀ w2,Below (w.alloc (.cells #[.string ⟨n.name.toArray⟩,.slice A1 n.ins.length c1,.slice A2 n.outs.length c2,.slice A3 n.locals.length c3,.slice A4 n.eqs.length c4] 41)).heap.size (w.alloc (.cells #[.string ⟨n.name.toArray⟩,.slice A1 n.ins.length c1,.slice A2 n.outs.length c2,.slice A3 n.locals.length c3,.slice A4 n.eqs.length c4] 41)) w2→Calls Tryz.prog 89 #[.slice A2 n.outs.length c2,.func (.func 90) #[.map (some b)] #[]] w2 fun e w'=>e=.returned (.bool (jH n.outs))∧Below w2.heap.size w2 w'):=fun w2 hb2=>qz b n.outs A2 c2 _ S hn.2.2.1 (hw.later (HA.out.trans (hb2.mono HA.out.size))) (h2.move (stay hS (HA.out.trans (hb2.mono HA.out.size)))) (jI hS (HA.out.trans (hb2.mono HA.out.size)))
 have HC3:Hid (∀ w2,Below (w.alloc (.cells #[.string ⟨n.name.toArray⟩,.slice A1 n.ins.length c1,.slice A2 n.outs.length c2,.slice A3 n.locals.length c3,.slice A4 n.eqs.length c4] 41)).heap.size (w.alloc (.cells #[.string ⟨n.name.toArray⟩,.slice A1 n.ins.length c1,.slice A2 n.outs.length c2,.slice A3 n.locals.length c3,.slice A4 n.eqs.length c4] 41)) w2→Calls Tryz.prog 89 #[.slice A3 n.locals.length c3,.func (.func 90) #[.map (some b)] #[]] w2 fun e w'=>e=.returned (.bool (jH n.locals))∧Below w2.heap.size w2 w'):=fun w2 hb2=>qz b n.locals A3 c3 _ S hn.2.2.2.1 (hw.later (HA.out.trans (hb2.mono HA.out.size))) (h3.move (stay hS (HA.out.trans (hb2.mono HA.out.size)))) (jI hS (HA.out.trans (hb2.mono HA.out.size)))
 have HC4:Hid (∀ w2,Below (w.alloc (.cells #[.string ⟨n.name.toArray⟩,.slice A1 n.ins.length c1,.slice A2 n.outs.length c2,.slice A3 n.locals.length c3,.slice A4 n.eqs.length c4] 41)).heap.size (w.alloc (.cells #[.string ⟨n.name.toArray⟩,.slice A1 n.ins.length c1,.slice A2 n.outs.length c2,.slice A3 n.locals.length c3,.slice A4 n.eqs.length c4] 41)) w2→Calls Tryz.prog 91 #[.slice A4 n.eqs.length c4,.func (.func 92) #[.map (some b)] #[]] w2 fun e w'=>e=.returned (.bool (eqsB n.eqs))∧Below w2.heap.size w2 w'):=fun w2 hb2=>YN b n.eqs A4 c4 _ S hn.2.2.2.2 (hw.later (HA.out.trans (hb2.mono HA.out.size))) (ht.later (HA.out.trans (hb2.mono HA.out.size))) (h4.move (stay hS (HA.out.trans (hb2.mono HA.out.size)))) (jI hS (HA.out.trans (hb2.mono HA.out.size)))
 clear hw ht h1 h2 h3 h4 hn
 by_cases hp0:zB n.name=true
 ·rw[hp0] at HC0
  by_cases hp1:jH n.ins=true
  ·rw[hp1] at HC1
   by_cases hs:0<n.outs.length
   ·have hsi:(n.outs.length:Int) > 0:=by omega
    have hso:ur n.outs.length=true:=by simp[ur,hs]
    clear hs
    by_cases hp3:jH n.outs=true
    ·rw[hp3] at HC2
     by_cases hp4:jH n.locals=true
     ·rw[hp4] at HC3
      have HO:Hid (vh n=eqsB n.eqs):=YV (by simp[vh,hp0,hp1,hso,hp3,hp4])
      go_enter Tryz.func53,Tryz.ntmps53
      go_wp2_with (first|(go_at_call 88;refine HC0.out.mono ?_;rintro e w0 ⟨rfl,hb0⟩;have HD0:=YV hb0;have HR0:=(HR.out.below HD0.out (by simp)).cell;have a01:=HR0 1;have a02:=HR0 2;have a03:=HR0 3;have a04:=HR0 4;simp at a01 a02 a03 a04;clear hb0 HR0 HC0)|(go_at_call 89;refine(HC1.out _ HD0.out).mono ?_;rintro e w1 ⟨rfl,hb1⟩;have HD1:=YV (HD0.out.trans (hb1.mono HD0.out.size));have HR1:=(HR.out.below HD1.out (by simp)).cell;have a11:=HR1 1;have a12:=HR1 2;have a13:=HR1 3;have a14:=HR1 4;simp at a11 a12 a13 a14;clear hb1 HR1 HC1)|(go_at_call 89;refine(HC2.out _ HD1.out).mono ?_;rintro e w2 ⟨rfl,hb2⟩;have HD2:=YV (HD1.out.trans (hb2.mono HD1.out.size));have HR2:=(HR.out.below HD2.out (by simp)).cell;have a21:=HR2 1;have a22:=HR2 2;have a23:=HR2 3;have a24:=HR2 4;simp at a21 a22 a23 a24;clear hb2 HR2 HC2)|(go_at_call 89;refine(HC3.out _ HD2.out).mono ?_;rintro e w3 ⟨rfl,hb3⟩;have HD3:=YV (HD2.out.trans (hb3.mono HD2.out.size));have HR3:=(HR.out.below HD3.out (by simp)).cell;have a31:=HR3 1;have a32:=HR3 2;have a33:=HR3 3;have a34:=HR3 4;simp at a31 a32 a33 a34;clear hb3 HR3 HC3)|(go_at_call 91;refine(HC4.out _ HD3.out).mono ?_;rintro e w4 ⟨rfl,hb4⟩;have HD4:=YV (HD3.out.trans (hb4.mono HD3.out.size));have HR4:=(HR.out.below HD4.out (by simp)).cell;have a41:=HR4 1;have a42:=HR4 2;have a43:=HR4 3;have a44:=HR4 4;simp at a41 a42 a43 a44;clear hb4 HR4 HC4))
      go_ret
      exact⟨jq HO.out.symm,HA.out.trans (HD4.out.mono HA.out.size)⟩
     ·have hq:jH n.locals=false:=by simpa using hp4
      have HO:Hid (vh n=false):=YV (by simp[vh,hq])
      rw[hq] at HC3
      go_enter Tryz.func53,Tryz.ntmps53
      go_wp2_with (first|(go_at_call 88;refine HC0.out.mono ?_;rintro e w0 ⟨rfl,hb0⟩;have HD0:=YV hb0;have HR0:=(HR.out.below HD0.out (by simp)).cell;have a01:=HR0 1;have a02:=HR0 2;have a03:=HR0 3;have a04:=HR0 4;simp at a01 a02 a03 a04;clear hb0 HR0 HC0)|(go_at_call 89;refine(HC1.out _ HD0.out).mono ?_;rintro e w1 ⟨rfl,hb1⟩;have HD1:=YV (HD0.out.trans (hb1.mono HD0.out.size));have HR1:=(HR.out.below HD1.out (by simp)).cell;have a11:=HR1 1;have a12:=HR1 2;have a13:=HR1 3;have a14:=HR1 4;simp at a11 a12 a13 a14;clear hb1 HR1 HC1)|(go_at_call 89;refine(HC2.out _ HD1.out).mono ?_;rintro e w2 ⟨rfl,hb2⟩;have HD2:=YV (HD1.out.trans (hb2.mono HD1.out.size));have HR2:=(HR.out.below HD2.out (by simp)).cell;have a21:=HR2 1;have a22:=HR2 2;have a23:=HR2 3;have a24:=HR2 4;simp at a21 a22 a23 a24;clear hb2 HR2 HC2)|(go_at_call 89;refine(HC3.out _ HD2.out).mono ?_;rintro e w3 ⟨rfl,hb3⟩;have HD3:=YV (HD2.out.trans (hb3.mono HD2.out.size));have HR3:=(HR.out.below HD3.out (by simp)).cell;have a31:=HR3 1;have a32:=HR3 2;have a33:=HR3 3;have a34:=HR3 4;simp at a31 a32 a33 a34;clear hb3 HR3 HC3))
      go_ret
      exact⟨jq HO.out.symm,HA.out.trans (HD3.out.mono HA.out.size)⟩
    ·have hq:jH n.outs=false:=by simpa using hp3
     have HO:Hid (vh n=false):=YV (by simp[vh,hq])
     rw[hq] at HC2
     go_enter Tryz.func53,Tryz.ntmps53
     go_wp2_with (first|(go_at_call 88;refine HC0.out.mono ?_;rintro e w0 ⟨rfl,hb0⟩;have HD0:=YV hb0;have HR0:=(HR.out.below HD0.out (by simp)).cell;have a01:=HR0 1;have a02:=HR0 2;have a03:=HR0 3;have a04:=HR0 4;simp at a01 a02 a03 a04;clear hb0 HR0 HC0)|(go_at_call 89;refine(HC1.out _ HD0.out).mono ?_;rintro e w1 ⟨rfl,hb1⟩;have HD1:=YV (HD0.out.trans (hb1.mono HD0.out.size));have HR1:=(HR.out.below HD1.out (by simp)).cell;have a11:=HR1 1;have a12:=HR1 2;have a13:=HR1 3;have a14:=HR1 4;simp at a11 a12 a13 a14;clear hb1 HR1 HC1)|(go_at_call 89;refine(HC2.out _ HD1.out).mono ?_;rintro e w2 ⟨rfl,hb2⟩;have HD2:=YV (HD1.out.trans (hb2.mono HD1.out.size));have HR2:=(HR.out.below HD2.out (by simp)).cell;have a21:=HR2 1;have a22:=HR2 2;have a23:=HR2 3;have a24:=HR2 4;simp at a21 a22 a23 a24;clear hb2 HR2 HC2))
     go_ret
     exact⟨jq HO.out.symm,HA.out.trans (HD2.out.mono HA.out.size)⟩
   ·have hsi:¬ (n.outs.length:Int) > 0:=by omega
    have HO:Hid (vh n=false):=YV (by
                            have:ur n.outs.length=false:=decide_eq_false hs
                            simp[vh,this])
    clear hs
    go_enter Tryz.func53,Tryz.ntmps53
    go_wp2_with (first|(go_at_call 88;refine HC0.out.mono ?_;rintro e w0 ⟨rfl,hb0⟩;have HD0:=YV hb0;have HR0:=(HR.out.below HD0.out (by simp)).cell;have a01:=HR0 1;have a02:=HR0 2;have a03:=HR0 3;have a04:=HR0 4;simp at a01 a02 a03 a04;clear hb0 HR0 HC0)|(go_at_call 89;refine(HC1.out _ HD0.out).mono ?_;rintro e w1 ⟨rfl,hb1⟩;have HD1:=YV (HD0.out.trans (hb1.mono HD0.out.size));have HR1:=(HR.out.below HD1.out (by simp)).cell;have a11:=HR1 1;have a12:=HR1 2;have a13:=HR1 3;have a14:=HR1 4;simp at a11 a12 a13 a14;clear hb1 HR1 HC1))
    go_ret
    exact⟨jq HO.out.symm,HA.out.trans (HD1.out.mono HA.out.size)⟩
  ·have hq:jH n.ins=false:=by simpa using hp1
   have HO:Hid (vh n=false):=YV (by simp[vh,hq])
   rw[hq] at HC1
   go_enter Tryz.func53,Tryz.ntmps53
   go_wp2_with (first|(go_at_call 88;refine HC0.out.mono ?_;rintro e w0 ⟨rfl,hb0⟩;have HD0:=YV hb0;have HR0:=(HR.out.below HD0.out (by simp)).cell;have a01:=HR0 1;have a02:=HR0 2;have a03:=HR0 3;have a04:=HR0 4;simp at a01 a02 a03 a04;clear hb0 HR0 HC0)|(go_at_call 89;refine(HC1.out _ HD0.out).mono ?_;rintro e w1 ⟨rfl,hb1⟩;have HD1:=YV (HD0.out.trans (hb1.mono HD0.out.size));have HR1:=(HR.out.below HD1.out (by simp)).cell;have a11:=HR1 1;have a12:=HR1 2;have a13:=HR1 3;have a14:=HR1 4;simp at a11 a12 a13 a14;clear hb1 HR1 HC1))
   go_ret
   exact⟨jq HO.out.symm,HA.out.trans (HD1.out.mono HA.out.size)⟩
 ·have hq:zB n.name=false:=by simpa using hp0
  have HO:Hid (vh n=false):=YV (by simp[vh,hq])
  rw[hq] at HC0
  go_enter Tryz.func53,Tryz.ntmps53
  go_wp2_with (first|(go_at_call 88;refine HC0.out.mono ?_;rintro e w0 ⟨rfl,hb0⟩;have HD0:=YV hb0;have HR0:=(HR.out.below HD0.out (by simp)).cell;have a01:=HR0 1;have a02:=HR0 2;have a03:=HR0 3;have a04:=HR0 4;simp at a01 a02 a03 a04;clear hb0 HR0 HC0))
  go_ret
  exact⟨jq HO.out.symm,HA.out.trans (HD0.out.mono HA.out.size)⟩
theorem YO (bm:Nat) (l:List Nd) (A:Option Addr) (c:Nat) (w:World) (S:Nat→Prop) (hl:okNs l) (hm:WM w bm) (htb:zR w) (hA:NS w S A l) (hS:∀ b,S b→b<w.heap.size) :
  Calls Tryz.prog 51 #[.slice A l.length c,.func (.func 53) #[.map (some bm)] #[]] w fun e w'=>e=.returned (.bool (vD l))∧Below w.heap.size w w':=by
 have hlen:=hl.1
 have HL:=YV hl
 have HA:=YV hA
 have HM:=YV hm
 have HTB:=YV htb
 clear htb
 clear hl hA hm
 by_cases h1000:l.length≤1000
 ·go_enter Tryz.func51,Tryz.ntmps51
  go_wp2_with fail
  go_loopw [4,12] (fun r i wr=>r=.bool false∧∃ j:Nat,j≤l.length∧i=.int .i64 j∧(∀ (q:Nat) x,q<j→l[q]? = some x→vh x=true)∧Below w.heap.size w wr) (fun _ i _=>l.length - (intOf i).toNat)
  case atStart=>exact⟨rfl,0,by omega,rfl,fun q x h=>by omega,Below.refl _ _⟩
  case round=>
   obtain⟨rfl,j,hj,rfl,hs,hbw⟩:=hrel
   have HSM:=YV hs
   have HBW:=YV hbw
   have hws:=hbw.size
   clear hs
   by_cases hlt:j<l.length
   ·obtain⟨x,hx⟩:∃ x,l[j]? = some x:=⟨_,List.getElem?_eq_getElem hlt⟩
    obtain⟨b,off,A1,c1,A2,c2,A3,c3,A4,c4,rfl,d0,d1,d2,d3,d4,ht1,ht2,ht3,ht4,hbl⟩:=HA.out.at' hS hbw hx
    have HX:=YV hx
    have HC:Hid (∀ w2,Below wr.heap.size wr w2→Calls Tryz.prog 53 #[.map (some bm),.agg #[.string ⟨x.name.toArray⟩,.slice A1 x.ins.length c1,.slice A2 x.outs.length c2,.slice A3 x.locals.length c3,.slice A4 x.eqs.length c4]] w2 fun e w'=>e=.returned (.bool (vh x))∧Below w2.heap.size w2 w'):=fun w2 hb2=>by
     have hm:=HM.out
     exact Z2 bm x A1 A2 A3 A4 c1 c2 c3 c4 w2 S (HL.out.2 x (j7 hx)) ((hm.later hbw).later hb2) ((HTB.out.later hbw).later hb2) (ht1.move (stay (fun q hq=>Nat.lt_of_lt_of_le (hS q hq) hws) hb2)) (ht2.move (stay (fun q hq=>Nat.lt_of_lt_of_le (hS q hq) hws) hb2)) (ht3.move (stay (fun q hq=>Nat.lt_of_lt_of_le (hS q hq) hws) hb2)) (ht4.move (stay (fun q hq=>Nat.lt_of_lt_of_le (hS q hq) hws) hb2)) (fun q hq=>Nat.lt_of_lt_of_le (hS q hq) (Nat.le_trans hws hb2.size))
    clear hx hbw ht1 ht2 ht3 ht4
    by_cases hn:vh x=true
    ·have HV:=YV hn
     rw[hn] at HC
     clear hn
     go_wp2_with (go_at_call 53;refine(HC.out _ ((Below.refl _ _).alloc (Nat.le_refl _) _)).mono ?_;rintro e w1 ⟨rfl,hb1⟩;have HB1:=YV hb1;clear hb1)
     go_roundw
     case rel=>exact⟨rfl,j+1,by omega,by go_num,fun q u hq hu=>by
      by_cases e:q=j
      ·subst e;rw[HX.out] at hu;injection hu with hu;rw[← hu];exact HV.out
      ·exact HSM.out q u (by omega) hu,HBW.out.trans (((Below.refl _ _).alloc hws _).trans (HB1.out.mono (by simp;omega)))⟩
     case measure=>simp[intOf];omega
    ·have hn':vh x=false:=by simpa using hn
     have HV:Hid (vD l=false):=YV (by rw[vD,all_stop HX.out hn',Bool.false_and])
     rw[hn'] at HC
     clear hn hn'
     go_wp2_with (go_at_call 53;refine(HC.out _ ((Below.refl _ _).alloc (Nat.le_refl _) _)).mono ?_;rintro e w1 ⟨rfl,hb1⟩;have HB1:=YV hb1;clear hb1)
     go_ret
     exact⟨jq HV.out.symm,HBW.out.trans (((Below.refl _ _).alloc hws _).trans (HB1.out.mono (by simp;omega)))⟩
   ·have HE:Hid (vD l=true):=YV (by
     rw[vD,yO fun q x hx=>HSM.out q x (by
      rcases Nat.lt_or_ge q l.length with h' | h'
      ·omega
      ·rw[List.getElem?_eq_none h'] at hx;cases hx) hx]
     simp[fewB,h1000])
    clear hbw
    go_wp2_with fail
    go_ret
    exact⟨jq HE.out.symm,HBW.out⟩
 ·have HE:Hid (vD l=false):=YV (by rw[vD];simp[fewB];intro _;omega)
  go_enter Tryz.func51,Tryz.ntmps51
  go_wp2_with fail
  go_ret
  exact⟨jq HE.out.symm,Below.refl _ _⟩
end Go.Proofs.YtdabndiaflagpaaGreatDoor
namespace Go.Proofs.YtdabndiaflagpaaGreatDoor
open Go.RowKit
attribute [local go_sem] Tame.Op Tame.upon
def FMV (v:Value) (w:World):Prop:=∃ b,v=.func (.func 53) #[.map (some b)] #[]∧WM w b
theorem FMV.later {v:Value} {w w':World} (h:FMV v w) (hl:Tame.Later w w'):FMV v w':=by
 obtain⟨b,hv,hm⟩:=h
 exact⟨b,hv,hm.later hl⟩
theorem Je (l:List Nd) (A:Option Addr) (c:Nat) (w:World) (S:Nat→Prop) (hl:okNs l) (ht:zR w) (hA:NS w S A l) (hS:∀ b,S b→b<w.heap.size) :
  Calls Tryz.prog 26 #[.agg #[.slice A l.length c]] w fun e w'=>e=.returned (.bool (vD l))∧Below w.heap.size w w':=by
 have HR:Hid (Row (w.alloc (.cells #[.slice A l.length c] 36)) w.heap.size 36 #[.slice A l.length c]):=YV (Row.made w 36 _)
 have HB0:Hid (Below w.heap.size w (w.alloc (.cells #[.slice A l.length c] 36))):=YV ((Below.refl _ _).alloc (Nat.le_refl _) _)
 have HC:Hid (∀ b w2,Below w.heap.size w w2→WM w2 b→Calls Tryz.prog 51 #[.slice A l.length c,.func (.func 53) #[.map (some b)] #[]] w2 fun e w'=>e=.returned (.bool (vD l))∧Below w2.heap.size w2 w'):=fun b w2 hb2 hm=>
  YO b l A c w2 S hl hm (ht.later hb2) (hA.move (stay hS hb2)) (jI hS hb2)
 clear ht hA
 go_enter Tryz.func26,Tryz.ntmps26
 go_wp2_with fail
 refine Tame.wp_region_tame (by kernel_rfl) (by kernel_rfl) Tame.Later.refl Tame.Later.trans ?_
 repeat
  ((first
   |(refine Tame.walk_known (o:=⟨some 4,_,_,_,_,_⟩) (fun _=>rfl) ?_;apply Exists.intro;refine⟨fun vals w2 hL hd=>?_,?_⟩;(focus(have hb2:Below (w.heap.size+1) (w.alloc (.cells #[.slice A l.length c] 36)) w2:=zm hL (by simp);have r:=HR.out.below hb2 (Nat.lt_succ_self _);have c0:=r.cell 0;clear hd hL hb2 r;simp at c0;go_simp;exact Tame.Is.mk (Tame.Later.refl _))))
   |(refine Tame.walk_some (o:=⟨some 5,_,_,_,_,_⟩) (WMV) (fun _=>rfl) (fun v w w' hl h=>h.later hl) (fun vals w2 hL hd=>?_) ?_;(focus(have HC:=YV (um w2);clear hd hL;go_simp;refine HC.out.mono ?_;rintro e w' ⟨b,rfl,hm,_,hb⟩;exact⟨_,rfl,hb,b,rfl,hm⟩)))
   |(refine Tame.walk_some (o:=⟨some 6,_,_,_,_,_⟩) (FMV) (fun _=>rfl) (fun v w w' hl h=>h.later hl) (fun vals w2 hL hd=>?_) ?_;(focus(have hm:WMV (vals 2) w2:=hd ⟨2,.data⟩ (by simp) rfl _ rfl;clear hd hL;obtain⟨b,hv,hm⟩:=hm;have HM:=YV hm;clear hm;go_simp;exact Tame.Has.mk (Tame.Later.refl _) ⟨b,rfl,HM.out⟩)))
   |(refine Tame.walk_known (o:=⟨some 7,_,_,_,_,_⟩) (fun _=>rfl) ?_;apply Exists.intro;refine⟨fun vals w2 hL hd=>?_,?_⟩;(focus(have hb2:Below w.heap.size w w2:=HB0.out.trans (zm hL (by simp));have hm:FMV (vals 3) w2:=hd ⟨3,.data⟩ (by simp) rfl _ rfl;clear hd hL;obtain⟨b,hv,hm⟩:=hm;have HCC:=YV (HC.out b w2 hb2 hm);clear hb2 hm;go_simp;exact Tame.known HCC.out)))
   |(refine Tame.walk_known (fun _=>rfl) ?_;apply Exists.intro;refine⟨fun vals w2 hL hd=>?_,?_⟩;(focus(go_simp;first | exact Tame.Is.mk (Tame.Later.refl _)|(rw[if_neg];(focus exact Tame.Is.mk (Tame.Later.refl _));omega)))))
   simp only[Act.put,List.setIfInBounds_toArray,List.set_cons_zero,List.set_cons_succ,List.nil_append,List.cons_append,List.length_cons,List.length_nil,Nat.zero_add,Nat.reduceAdd])
 refine Tame.walk_end fun vals w2 hL _=>?_
 have HB2:Hid (Below w.heap.size w w2):=HB0.out.trans (zm hL (by simp))
 clear hL
 go_wp2_with fail
 go_ret
 exact⟨rfl,HB2.out⟩
end Go.Proofs.YtdabndiaflagpaaGreatDoor
