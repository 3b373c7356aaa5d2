/- Parts: SEq. -/
import Derived.Deep.CutRange
import Derived.Test.YtdabndiaflagpaaGreatDoorK00
import Derived.Test.YtdabndiaflagpaaGreatDoorK06
import Derived.Test.YtdabndiaflagpaaGreatDoorK26
set_option maxRecDepth 100000
set_option maxHeartbeats 4000000
namespace Go.Proofs.YtdabndiaflagpaaGreatDoor
open Go.RowKit
attribute [local go_sem] Tame.Op Tame.upon
theorem kt (N:Nat) (hM:N≤1099511627775):∀ (x y:X) (A B:Option Addr) (c d:Nat) (w:World) (S:Nat→Prop),x=y→x.size≤N→KS w S A x.ks→y.size≤1099511627775→KS w S B y.ks→(∀ b,S b→b<w.heap.size)→
  Calls Tryz.prog 48 #[ev x A c,ev y B d] w fun e w'=>e=.returned (.bool (x.same y))∧Below w.heap.size w w':=by
 induction N with
 | zero=>intro x y A B c d w S _ h;have:=x.size_pos;omega
 | succ N ih0=>
  have ih:=ih0 (by omega)
  clear ih0
  intro x y A B c d w S hxy hN hA hy hB hS
  obtain⟨k,o,n,s,ks⟩:=x
  obtain⟨k',o',n',s',ks'⟩:=y
  injection hxy with x1 x2 x3 x4 x5
  have HKS:=YV x5
  clear x5
  simp only[X.size,X.ks,ev,X.k,X.o,X.n,X.s] at hN hA hy hB ⊢
  have hk:k=k':=x1
  ·subst hk
   have ho:o=o':=x2
   ·subst ho
    have hn:n=n':=x3
    ·subst hn
     have hs:s=s':=x4
     ·subst hs
      have hl:ks.length=ks'.length:=by rw[HKS.out]
      ·have HE:Hid ((X.mk k o n s ks).same (.mk k o n s ks')=X.sames ks ks'):=YV (by simp[X.same])
       have HL:=YV hl
       rw[← hl]
       clear hl
       have HY:=YV hy
       have HA:=YV hA
       have HB:=YV hB
       have hlen:=X.sizes_length ks
       clear hy hA hB
       have hr1:=(Row.made w 52 #[.int .i64 k,.int .i64 o,.int .i64 n,.string ⟨s.toArray⟩,.slice A ks.length c]).alloc (.cells #[.int .i64 k,.int .i64 o,.int .i64 n,.string ⟨s.toArray⟩,.slice B ks.length d] 52)
       have hr2:=Row.made (w.alloc (.cells #[.int .i64 k,.int .i64 o,.int .i64 n,.string ⟨s.toArray⟩,.slice A ks.length c] 52)) 52 #[.int .i64 k,.int .i64 o,.int .i64 n,.string ⟨s.toArray⟩,.slice B ks.length d]
       rw[World.size_alloc] at hr2
       have hBe:Below w.heap.size w ((w.alloc (.cells #[.int .i64 k,.int .i64 o,.int .i64 n,.string ⟨s.toArray⟩,.slice A ks.length c] 52)).alloc (.cells #[.int .i64 k,.int .i64 o,.int .i64 n,.string ⟨s.toArray⟩,.slice B ks.length d] 52)):=((Below.refl _ _).alloc (Nat.le_refl _) _).alloc (by simp) _
       have hz0:((w.alloc (.cells #[.int .i64 k,.int .i64 o,.int .i64 n,.string ⟨s.toArray⟩,.slice A ks.length c] 52)).alloc (.cells #[.int .i64 k,.int .i64 o,.int .i64 n,.string ⟨s.toArray⟩,.slice B ks.length d] 52)).heap.size=w.heap.size+2:=by simp
       have HR1:=YV hr1
       have HR2:=YV hr2
       have HBE:=YV hBe
       have HZ0:=YV hz0
       clear hr1 hr2 hBe hz0
       go_enter Tryz.func48,Tryz.ntmps48
       go_wp2_with fail
       go_loopw [4,5] (fun r i wr=>r=.bool false∧∃ j:Nat,j≤ks.length∧i=.int .i64 j∧(∀ (q:Nat) x y,q<j→ks[q]? = some x→ks'[q]? = some y→x.same y=true)∧Below (w.heap.size+2) ((w.alloc (.cells #[.int .i64 k,.int .i64 o,.int .i64 n,.string ⟨s.toArray⟩,.slice A ks.length c] 52)).alloc (.cells #[.int .i64 k,.int .i64 o,.int .i64 n,.string ⟨s.toArray⟩,.slice B ks.length d] 52)) wr) (fun _ i _=>ks.length - (intOf i).toNat)
       case atStart=>exact⟨rfl,0,by omega,rfl,fun q x y h=>by omega,Below.refl _ _⟩
       case round=>
        obtain⟨rfl,j,hj,rfl,hs,hbw0⟩:=hrel
        have R1:=YV (HR1.out.below hbw0 (by omega))
        have R2:=YV (HR2.out.below hbw0 (by omega))
        have hbw:Below w.heap.size w wr:=HBE.out.trans (hbw0.mono (by omega))
        have hz1:w.heap.size+2≤wr.heap.size:=by have:=hbw0.size;rw[HZ0.out] at this;exact this
        have HBW:=YV hbw0
        have HSM:=YV hs
        have hws:=hbw.size
        have c4:=R1.out.cell 4
        simp at c4
        clear hs hbw0
        by_cases hlt:j<ks.length
        ·obtain⟨x,hx1⟩:∃ x,ks[j]? = some x:=⟨_,List.getElem?_eq_getElem hlt⟩
         obtain⟨y,hy1⟩:∃ y,ks'[j]? = some y:=⟨_,List.getElem?_eq_getElem (by have:=HL.out;omega)⟩
         obtain⟨b,off,A',c',rfl,d0,d1,d2,d3,d4,hk,hbl⟩:=HA.out.kid_at hS hbw hx1
         obtain⟨b2,off2,B',c2,rfl,e0,e1,e2,e3,e4,hk2,hbl2⟩:=HB.out.kid_at hS hbw hy1
         have hb1':b<wr.heap.size:=by omega
         have hb2':b2<wr.heap.size:=by omega
         have HX:=YV hx1
         have HY1:=YV hy1
         have D0:=YV d0
         have D1:=YV d1
         have D2:=YV d2
         have D3:=YV d3
         have D4:=YV d4
         have E0:=YV e0
         have E1:=YV e1
         have E2:=YV e2
         have E3:=YV e3
         have E4:=YV e4
         have HC:Hid (∀ w2,Below wr.heap.size wr w2→Calls Tryz.prog 48 #[.agg #[.int .i64 x.k,.int .i64 x.o,.int .i64 x.n,.string ⟨x.s.toArray⟩,.slice A' x.ks.length c'],.agg #[.int .i64 y.k,.int .i64 y.o,.int .i64 y.n,.string ⟨y.s.toArray⟩,.slice B' y.ks.length c2]] w2 fun e w'=>e=.returned (.bool (x.same y))∧Below w2.heap.size w2 w'):=
          fun w2 hb2=>ih x y A' B' c' c2 w2 S (by have h1:=HX.out;rw[HKS.out] at h1;exact Option.some.inj (h1.symm.trans HY1.out)) (Nat.le_trans (X.sizes_at hx1) (by omega)) (hk.later (fun b h=>Nat.lt_of_lt_of_le (hS b h) hws) hb2) (Nat.le_trans (X.sizes_at hy1) (by have:=HY.out;omega)) (hk2.later (fun b h=>Nat.lt_of_lt_of_le (hS b h) hws) hb2) (fun b h=>Nat.lt_of_lt_of_le (hS b h) (Nat.le_trans hws hb2.size))
         clear hx1 hy1 hk hk2 hbw d0 d1 d2 d3 d4 e0 e1 e2 e3 e4
         have he:x.same y=true:=by have h1:=HX.out;rw[HKS.out] at h1;rw[Option.some.inj (h1.symm.trans HY1.out)];exact X.same_refl _
         ·have HEE:=YV he
          rw[he] at HC
          clear he
          go_wp2_with fail
          refine Tame.wp_region_tame (by kernel_rfl) (by kernel_rfl) Tame.Later.refl Tame.Later.trans ?_
          repeat
           ((first
            |(refine Tame.walk_known (o:=⟨some 49,_,_,_,_,_⟩) (fun _=>rfl) ?_;apply Exists.intro;refine⟨fun vals w2 hL hd=>?_,?_⟩;(focus(have hb2:Below wr.heap.size wr w2:=(Below.refl _ wr).drew.trans hL;have c:=(R1.out.below (hb2.mono (by have:=HBW.out.size;simp at this;omega):Below (w.heap.size+2) wr w2) (by omega)).cell 4;clear hd hL hb2;simp at c;go_simp;exact Tame.Is.mk (Tame.Later.refl _))))
            |(refine Tame.walk_known (o:=⟨some 54,_,_,_,_,_⟩) (fun _=>rfl) ?_;apply Exists.intro;refine⟨fun vals w2 hL hd=>?_,?_⟩;(focus(have hb2:Below wr.heap.size wr w2:=(Below.refl _ wr).drew.trans hL;have c:=(R2.out.below (hb2.mono (by have:=HBW.out.size;simp at this;omega):Below (w.heap.size+2) wr w2) (by omega)).cell 4;clear hd hL hb2;simp at c;go_simp;exact Tame.Is.mk (Tame.Later.refl _))))
            |(refine Tame.walk_known (o:=⟨some 52,_,_,_,_,_⟩) (fun _=>rfl) ?_;apply Exists.intro;refine⟨fun vals w2 hL hd=>?_,?_⟩;(focus(have hb2:Below wr.heap.size wr w2:=(Below.refl _ wr).drew.trans hL;have f0:=(hb2.cell (p:=⟨b,off+j * 5,none⟩) (show b<_ from hb1')).trans D0.out;have f1:=(hb2.cell (p:=⟨b,off+j * 5+1,none⟩) (show b<_ from hb1')).trans D1.out;have f2:=(hb2.cell (p:=⟨b,off+j * 5+2,none⟩) (show b<_ from hb1')).trans D2.out;have f3:=(hb2.cell (p:=⟨b,off+j * 5+3,none⟩) (show b<_ from hb1')).trans D3.out;have f4:=(hb2.cell (p:=⟨b,off+j * 5+4,none⟩) (show b<_ from hb1')).trans D4.out;clear hd hL hb2;go_simp;exact Tame.Is.mk (Tame.Later.refl _))))
            |(refine Tame.walk_known (o:=⟨some 57,_,_,_,_,_⟩) (fun _=>rfl) ?_;apply Exists.intro;refine⟨fun vals w2 hL hd=>?_,?_⟩;(focus(have hb2:Below wr.heap.size wr w2:=(Below.refl _ wr).drew.trans hL;have f0:=(hb2.cell (p:=⟨b2,off2+j * 5,none⟩) (show b2<_ from hb2')).trans E0.out;have f1:=(hb2.cell (p:=⟨b2,off2+j * 5+1,none⟩) (show b2<_ from hb2')).trans E1.out;have f2:=(hb2.cell (p:=⟨b2,off2+j * 5+2,none⟩) (show b2<_ from hb2')).trans E2.out;have f3:=(hb2.cell (p:=⟨b2,off2+j * 5+3,none⟩) (show b2<_ from hb2')).trans E3.out;have f4:=(hb2.cell (p:=⟨b2,off2+j * 5+4,none⟩) (show b2<_ from hb2')).trans E4.out;clear hd hL hb2;go_simp;exact Tame.Is.mk (Tame.Later.refl _))))
            |(refine Tame.walk_known (o:=⟨some 58,_,_,_,_,_⟩) (fun _=>rfl) ?_;apply Exists.intro;refine⟨fun vals w2 hL hd=>?_,?_⟩;(focus(have hb2:Below wr.heap.size wr w2:=(Below.refl _ wr).drew.trans hL;have HCC:=YV (HC.out w2 hb2);clear hd hL hb2;go_simp;exact Tame.known HCC.out)))
            |(refine Tame.walk_known (fun _=>rfl) ?_;apply Exists.intro;refine⟨fun vals w2 hL hd=>?_,?_⟩;(focus(go_simp;first | exact Tame.Is.mk (Tame.Later.refl _)|(rw[if_neg];(focus exact Tame.Is.mk (Tame.Later.refl _));omega)))))
            simp only[Act.put,List.setIfInBounds_toArray,List.set_cons_zero,List.set_cons_succ,List.nil_append,List.cons_append])
          refine Tame.walk_end fun vals w2 hL _=>?_
          have HB2:Hid (Below wr.heap.size wr w2):=(Below.refl _ wr).drew.trans hL
          clear hL
          go_wp2_with fail
          go_roundw
          case rel=>exact⟨rfl,j+1,by omega,by go_num,fun q u v hq hu hv=>by
           by_cases e:q=j
           ·subst e;rw[HX.out] at hu;rw[HY1.out] at hv;injection hu with hu;injection hv with hv;rw[← hu,← hv];exact HEE.out
           ·exact HSM.out q u v (by omega) hu hv,HBW.out.trans (HB2.out.mono hz1)⟩
          case measure=>simp[intOf];omega
        ·have HEE:Hid (X.sames ks ks'=true):=X.sames_all HL.out fun q x y hx hy=>HSM.out q x y (by
          rcases Nat.lt_or_ge q ks.length with h' | h'
          ·omega
          ·rw[List.getElem?_eq_none h'] at hx;cases hx) hx hy
         have HBB:=YV hbw
         clear hbw
         go_wp2_with fail
         go_ret
         exact⟨ret_b (HE.out.trans HEE.out).symm,HBB.out⟩
theorem qA (xs ys:List Vr) (A B:Option Addr) (c d:Nat) (w:World) (S:Nat→Prop) (hxy:xs=ys) (hx:xs.length≤1099511627776) (hA:VS w S A xs) (hB:VS w S B ys) (hS:∀ b,S b→b<w.heap.size) :
  Calls Tryz.prog 47 #[.slice A xs.length c,.slice B ys.length d] w fun e w'=>e=.returned (.bool (sm j9 xs ys))∧Below w.heap.size w w':=by
 have HXY:=YV hxy
 clear hxy
 have HA:=YV hA
 have HB:=YV hB
 clear hA hB
 have hl:xs.length=ys.length:=by rw[HXY.out]
 ·have HL:=YV hl
  rw[← hl]
  clear hl
  go_enter Tryz.func47,Tryz.ntmps47
  go_wp2_with fail
  go_loopw [4,5] (fun r i wr=>r=.bool false∧∃ j:Nat,j≤xs.length∧i=.int .i64 j∧(∀ (q:Nat) x y,q<j→xs[q]? = some x→ys[q]? = some y→j9 x y=true)∧Below w.heap.size w wr) (fun _ i _=>xs.length - (intOf i).toNat)
  case atStart=>exact⟨rfl,0,by omega,rfl,fun q x y h=>by omega,Below.refl _ _⟩
  case round=>
   obtain⟨rfl,j,hj,rfl,hs,hbw⟩:=hrel
   have HSM:=YV hs
   have HBW:=YV hbw
   have hws:=hbw.size
   clear hs
   by_cases hlt:j<xs.length
   ·obtain⟨x,hx1⟩:∃ x,xs[j]? = some x:=⟨_,List.getElem?_eq_getElem hlt⟩
    obtain⟨y,hy1⟩:∃ y,ys[j]? = some y:=⟨_,List.getElem?_eq_getElem (by have:=HL.out;omega)⟩
    obtain⟨b,off,rfl,d0,d1,hbl⟩:=HA.out.at' hS hbw hx1
    obtain⟨b2,off2,rfl,e0,e1,hbl2⟩:=HB.out.at' hS hbw hy1
    have hbl':b<wr.heap.size:=by omega
    have hbl2':b2<wr.heap.size:=by omega
    have HX:=YV hx1
    have HY:=YV hy1
    have D0:=YV d0
    have E0:=YV e0
    have D1:=YV d1
    have E1:=YV e1
    clear hx1 hy1 hbw d0 e0 d1 e1
    obtain⟨xn,xt⟩:=x
    obtain⟨yn,yt⟩:=y
    have he:xn=yn:=by have h1:=HX.out;rw[HXY.out] at h1;have h2:=Option.some.inj (h1.symm.trans HY.out);injection h2 with h2 h3
    ·have q1:(xn == yn)=true:=by simpa using he
     have q2:(xn != yn)=false:=by simpa using he
     have ht:xt=yt:=by have h1:=HX.out;rw[HXY.out] at h1;have h2:=Option.some.inj (h1.symm.trans HY.out);injection h2 with h2 h3
     ·have HE:Hid (j9 ⟨xn,xt⟩ ⟨yn,yt⟩=true):=YV (by simp[j9,he,ht])
      have q3:(xt == yt)=true:=by simpa using ht
      have q4:(xt != yt)=false:=by simpa using ht
      clear he ht
      go_wp2_with fail
      refine Tame.wp_region_tame (by kernel_rfl) (by kernel_rfl) Tame.Later.refl Tame.Later.trans ?_
      repeat
       ((first
        |(refine Tame.walk_known (o:=⟨some 20,_,_,_,_,_⟩) (fun _=>rfl) ?_;apply Exists.intro;refine⟨fun vals w2 hL hd=>?_,?_⟩;(focus(have hb2:Below wr.heap.size wr w2:=zm hL (Nat.le_refl _);have x0:=(hb2.cell (p:=⟨b,off+j * 2,none⟩) (by show b<_;omega)).trans D0.out;have x1:=(hb2.cell (p:=⟨b,off+j * 2+1,none⟩) (by show b<_;omega)).trans D1.out;clear hd hL hb2;go_simp;exact Tame.Is.mk (Tame.Later.refl _))))
        |(refine Tame.walk_known (o:=⟨some 24,_,_,_,_,_⟩) (fun _=>rfl) ?_;apply Exists.intro;refine⟨fun vals w2 hL hd=>?_,?_⟩;(focus(have hb2:Below wr.heap.size wr w2:=zm hL (Nat.le_refl _);have x0:=(hb2.cell (p:=⟨b2,off2+j * 2,none⟩) (by show b2<_;omega)).trans E0.out;have x1:=(hb2.cell (p:=⟨b2,off2+j * 2+1,none⟩) (by show b2<_;omega)).trans E1.out;clear hd hL hb2;go_simp;exact Tame.Is.mk (Tame.Later.refl _))))
        |(refine Tame.walk_known (o:=⟨some 25,_,_,_,_,_⟩) (fun _=>rfl) ?_;apply Exists.intro;refine⟨fun vals w2 hL hd=>?_,?_⟩;(focus(clear hd hL;go_simp;first | exact Tame.Is.mk (Tame.Later.refl _)|(simp only[q1,q2,q3,q4];exact Tame.Is.mk (Tame.Later.refl _)))))
        |(refine Tame.walk_known (fun _=>rfl) ?_;apply Exists.intro;refine⟨fun vals w2 hL hd=>?_,?_⟩;(focus(go_simp;first | exact Tame.Is.mk (Tame.Later.refl _)|(rw[if_neg];(focus exact Tame.Is.mk (Tame.Later.refl _));omega)))))
        simp only[Act.put,List.setIfInBounds_toArray,List.set_cons_zero,List.set_cons_succ,List.nil_append,List.cons_append])
      refine Tame.walk_end fun vals w2 hL _=>?_
      have HB2:Hid (Below wr.heap.size wr w2):=zm hL (Nat.le_refl _)
      clear hL
      go_wp2_with fail
      go_roundw
      case rel=>exact⟨rfl,j+1,by omega,by go_num,fun q u v hq hu hv=>by
       by_cases e:q=j
       ·subst e;rw[HX.out] at hu;rw[HY.out] at hv;injection hu with hu;injection hv with hv;rw[← hu,← hv];exact HE.out
       ·exact HSM.out q u v (by omega) hu hv,HBW.out.trans (HB2.out.mono hws)⟩
      case measure=>simp[intOf];omega
   ·have HE:Hid (sm j9 xs ys=true):=y7 HL.out fun q x y hx hy=>HSM.out q x y (by
     rcases Nat.lt_or_ge q xs.length with h' | h'
     ·omega
     ·rw[List.getElem?_eq_none h'] at hx;cases hx) hx hy
    clear hbw
    go_wp2_with fail
    go_ret
    exact⟨jq HE.out.symm,HBW.out⟩
theorem qd (xs ys:List Nd) (A B:Option Addr) (c d:Nat) (w:World) (S:Nat→Prop) (hxy:xs=ys) (hx:okNs xs) (hy:okNs ys) (hA:NS w S A xs) (hB:NS w S B ys) (hS:∀ b,S b→b<w.heap.size) :
  Calls Tryz.prog 24 #[.agg #[.slice A xs.length c],.agg #[.slice B ys.length d]] w fun e w'=>e=.returned (.bool (sm ub xs ys))∧Below w.heap.size w w':=by
 have hxl:=hx.1
 have hyl:=hy.1
 have HXY:=YV hxy
 clear hxy
 have HA:=YV hA
 have HB:=YV hB
 have HXO:=YV hx
 have HYO:=YV hy
 clear hA hB hx hy
 have hl:xs.length=ys.length:=by rw[HXY.out]
 ·have HL:=YV hl
  rw[← hl]
  clear hl hyl
  have HR1:Hid (Row ((w.alloc (.cells #[.slice A xs.length c] 31)).alloc (.cells #[.slice B xs.length d] 31)) w.heap.size 31 #[.slice A xs.length c]):=(Row.made w 31 _).alloc _
  have HR2:Hid (Row ((w.alloc (.cells #[.slice A xs.length c] 31)).alloc (.cells #[.slice B xs.length d] 31)) (w.heap.size+1) 31 #[.slice B xs.length d]):=by
   have:=Row.made (w.alloc (.cells #[.slice A xs.length c] 31)) 31 #[.slice B xs.length d]
   rw[World.size_alloc] at this
   exact this
  have HW:Hid (Below w.heap.size w ((w.alloc (.cells #[.slice A xs.length c] 31)).alloc (.cells #[.slice B xs.length d] 31))):=((Below.refl _ _).alloc (Nat.le_refl _) _).alloc (by simp) _
  go_enter Tryz.func24,Tryz.ntmps24
  go_wp2_with fail
  go_loopw [4,5] (fun r i wr=>r=.bool false∧∃ j:Nat,j≤xs.length∧i=.int .i64 j∧(∀ (q:Nat) x y,q<j→xs[q]? = some x→ys[q]? = some y→ub x y=true)∧Below ((w.alloc (.cells #[.slice A xs.length c] 31)).alloc (.cells #[.slice B xs.length d] 31)).heap.size ((w.alloc (.cells #[.slice A xs.length c] 31)).alloc (.cells #[.slice B xs.length d] 31)) wr) (fun _ i _=>xs.length - (intOf i).toNat)
  case atStart=>exact⟨rfl,0,by omega,rfl,fun q x y h=>by omega,Below.refl _ _⟩
  case round=>
   obtain⟨rfl,j,hj,rfl,hs,hbw0⟩:=hrel
   have HSM:=YV hs
   have HBW0:=YV hbw0
   have hbw:Below w.heap.size w wr:=HW.out.trans (hbw0.mono HW.out.size)
   have hws:=hbw.size
   have r1:=(HR1.out.below hbw0 HR1.out.lt).cell 0
   have r2:=(HR2.out.below hbw0 HR2.out.lt).cell 0
   simp at r1 r2
   have hz1:w.heap.size+1<wr.heap.size:=by have:=hbw0.size;simp at this;omega
   clear hs hbw0
   by_cases hlt:j<xs.length
   ·obtain⟨x,hx1⟩:∃ x,xs[j]? = some x:=⟨_,List.getElem?_eq_getElem hlt⟩
    obtain⟨y,hy1⟩:∃ y,ys[j]? = some y:=⟨_,List.getElem?_eq_getElem (by have:=HL.out;omega)⟩
    obtain⟨b,off,A1,c1,A2,c2,A3,c3,A4,c4,rfl,d0,d1,d2,d3,d4,h1,h2,h3,h4,hbl⟩:=HA.out.at' hS hbw hx1
    obtain⟨b2,off2,B1,g1,B2,g2,B3,g3,B4,g4,rfl,e0,e1,e2,e3,e4,k1,k2,k3,k4,hbl2⟩:=HB.out.at' hS hbw hy1
    have hb1':b<wr.heap.size:=by omega
    have hb2':b2<wr.heap.size:=by omega
    have y1:w.heap.size<wr.heap.size:=by omega
    have y2:w.heap.size<wr.heap.size+1:=by omega
    have y3:b<wr.heap.size+1:=by omega
    have y4:b2<wr.heap.size+1:=by omega
    have HX:=YV hx1
    have HY:=YV hy1
    have HSR:Hid (∀ b,S b→b<wr.heap.size):=jI hS hbw
    have H1:=YV h1
    have H2:=YV h2
    have H3:=YV h3
    have H4:=YV h4
    have K1:=YV k1
    have K2:=YV k2
    have K3:=YV k3
    have K4:=YV k4
    clear hx1 hy1 hbw h1 h2 h3 h4 k1 k2 k3 k4
    obtain⟨wo,rfl⟩:∃ wo,wo=wr:=⟨wr,rfl⟩
    go_upto_region 6 with fail
    go_cut [6,7] from 17 to 139 (fun s6 s7 wq=>∃ p6 p7:Nat,s6=.pointer (some ⟨p6,0,none⟩)∧s7=.pointer (some ⟨p7,0,none⟩)∧Row wq p6 78 #[.string ⟨x.name.toArray⟩,.slice A1 x.ins.length c1,.slice A2 x.outs.length c2,.slice A3 x.locals.length c3,.slice A4 x.eqs.length c4]∧Row wq p7 78 #[.string ⟨y.name.toArray⟩,.slice B1 y.ins.length g1,.slice B2 y.outs.length g2,.slice B3 y.locals.length g3,.slice B4 y.eqs.length g4]∧Below wo.heap.size wo wq)
    case first=>
     go_region
     ·have RX:Row (((wo.alloc (.cells #[.string ⟨x.name.toArray⟩,.slice A1 x.ins.length c1,.slice A2 x.outs.length c2,.slice A3 x.locals.length c3,.slice A4 x.eqs.length c4] 78)).alloc (.cells #[.string ⟨y.name.toArray⟩,.slice B1 y.ins.length g1,.slice B2 y.outs.length g2,.slice B3 y.locals.length g3,.slice B4 y.eqs.length g4] 78)).drew) wo.heap.size 78 #[.string ⟨x.name.toArray⟩,.slice A1 x.ins.length c1,.slice A2 x.outs.length c2,.slice A3 x.locals.length c3,.slice A4 x.eqs.length c4]:=((Row.made wo 78 _).alloc _).drew
      have RY:Row (((wo.alloc (.cells #[.string ⟨x.name.toArray⟩,.slice A1 x.ins.length c1,.slice A2 x.outs.length c2,.slice A3 x.locals.length c3,.slice A4 x.eqs.length c4] 78)).alloc (.cells #[.string ⟨y.name.toArray⟩,.slice B1 y.ins.length g1,.slice B2 y.outs.length g2,.slice B3 y.locals.length g3,.slice B4 y.eqs.length g4] 78)).drew) (wo.heap.size+1) 78 #[.string ⟨y.name.toArray⟩,.slice B1 y.ins.length g1,.slice B2 y.outs.length g2,.slice B3 y.locals.length g3,.slice B4 y.eqs.length g4]:=by
       have:=Row.made (wo.alloc (.cells #[.string ⟨x.name.toArray⟩,.slice A1 x.ins.length c1,.slice A2 x.outs.length c2,.slice A3 x.locals.length c3,.slice A4 x.eqs.length c4] 78)) 78 #[.string ⟨y.name.toArray⟩,.slice B1 y.ins.length g1,.slice B2 y.outs.length g2,.slice B3 y.locals.length g3,.slice B4 y.eqs.length g4]
       rw[World.size_alloc] at this
       exact this.drew
      have BQ:Below wo.heap.size wo (((wo.alloc (.cells #[.string ⟨x.name.toArray⟩,.slice A1 x.ins.length c1,.slice A2 x.outs.length c2,.slice A3 x.locals.length c3,.slice A4 x.eqs.length c4] 78)).alloc (.cells #[.string ⟨y.name.toArray⟩,.slice B1 y.ins.length g1,.slice B2 y.outs.length g2,.slice B3 y.locals.length g3,.slice B4 y.eqs.length g4] 78)).drew):=(((Below.refl _ _).alloc (Nat.le_refl _) _).alloc (by simp) _).drew
      try go_wp2_with fail
      go_meet
      case rel=>exact⟨wo.heap.size,wo.heap.size+1,rfl,rfl,RX,RY,BQ⟩
     ·have RY:Row (((wo.alloc (.cells #[.string ⟨y.name.toArray⟩,.slice B1 y.ins.length g1,.slice B2 y.outs.length g2,.slice B3 y.locals.length g3,.slice B4 y.eqs.length g4] 78)).alloc (.cells #[.string ⟨x.name.toArray⟩,.slice A1 x.ins.length c1,.slice A2 x.outs.length c2,.slice A3 x.locals.length c3,.slice A4 x.eqs.length c4] 78)).drew) wo.heap.size 78 #[.string ⟨y.name.toArray⟩,.slice B1 y.ins.length g1,.slice B2 y.outs.length g2,.slice B3 y.locals.length g3,.slice B4 y.eqs.length g4]:=((Row.made wo 78 _).alloc _).drew
      have RX:Row (((wo.alloc (.cells #[.string ⟨y.name.toArray⟩,.slice B1 y.ins.length g1,.slice B2 y.outs.length g2,.slice B3 y.locals.length g3,.slice B4 y.eqs.length g4] 78)).alloc (.cells #[.string ⟨x.name.toArray⟩,.slice A1 x.ins.length c1,.slice A2 x.outs.length c2,.slice A3 x.locals.length c3,.slice A4 x.eqs.length c4] 78)).drew) (wo.heap.size+1) 78 #[.string ⟨x.name.toArray⟩,.slice A1 x.ins.length c1,.slice A2 x.outs.length c2,.slice A3 x.locals.length c3,.slice A4 x.eqs.length c4]:=by
       have:=Row.made (wo.alloc (.cells #[.string ⟨y.name.toArray⟩,.slice B1 y.ins.length g1,.slice B2 y.outs.length g2,.slice B3 y.locals.length g3,.slice B4 y.eqs.length g4] 78)) 78 #[.string ⟨x.name.toArray⟩,.slice A1 x.ins.length c1,.slice A2 x.outs.length c2,.slice A3 x.locals.length c3,.slice A4 x.eqs.length c4]
       rw[World.size_alloc] at this
       exact this.drew
      have BQ:Below wo.heap.size wo (((wo.alloc (.cells #[.string ⟨y.name.toArray⟩,.slice B1 y.ins.length g1,.slice B2 y.outs.length g2,.slice B3 y.locals.length g3,.slice B4 y.eqs.length g4] 78)).alloc (.cells #[.string ⟨x.name.toArray⟩,.slice A1 x.ins.length c1,.slice A2 x.outs.length c2,.slice A3 x.locals.length c3,.slice A4 x.eqs.length c4] 78)).drew):=(((Below.refl _ _).alloc (Nat.le_refl _) _).alloc (by simp) _).drew
      try go_wp2_with fail
      go_meet
      case rel=>exact⟨wo.heap.size+1,wo.heap.size,rfl,rfl,RX,RY,BQ⟩
    case rest=>
     obtain⟨p6,p7,rfl,rfl,rx,ry,bq⟩:=hcut
     obtain⟨wq,rfl⟩:∃ wq,wq=wc:=⟨wc,rfl⟩
     have RX:=YV rx
     have RY:=YV ry
     have BQ:=YV bq
     clear rx ry bq
     have HSF:Hid (ub x y=false→sm ub xs ys=false):=fun h=>Jk HX.out HY.out h
     have HQF:Hid (∀ (i:Nat) p q,x.eqs[i]? = some p→y.eqs[i]? = some q→qa p q=false→ub x y=false):=fun i p q hp hq h=>by rw[ub,Jk hp hq h,Bool.and_false]
     have x0:=RX.out.cell 0
     have x1:=RX.out.cell 1
     have x2:=RX.out.cell 2
     have x3:=RX.out.cell 3
     have x4:=RX.out.cell 4
     have y0:=RY.out.cell 0
     have y1:=RY.out.cell 1
     have y2:=RY.out.cell 2
     have y3:=RY.out.cell 3
     have y4:=RY.out.cell 4
     simp at x0 x1 x2 x3 x4 y0 y1 y2 y3 y4
     have hel:=(HXO.out.2 x (j7 HX.out)).2.2.2.2.1
     have hel2:=(HYO.out.2 y (j7 HY.out)).2.2.2.2.1
     have HC1:Hid (∀ w2,Below wq.heap.size wq w2→Calls Tryz.prog 47 #[.slice A1 x.ins.length c1,.slice B1 y.ins.length g1] w2 fun e w'=>e=.returned (.bool (sm j9 x.ins y.ins))∧Below w2.heap.size w2 w'):=fun w2 hb2=>qA x.ins y.ins A1 B1 c1 g1 w2 S (by have exy:x=y:=(by have h1:=HX.out;rw[HXY.out] at h1;exact Option.some.inj (h1.symm.trans HY.out));rw[exy]) (HXO.out.2 x (j7 HX.out)).2.1.1 (H1.out.move (stay HSR.out (BQ.out.trans (hb2.mono BQ.out.size)))) (K1.out.move (stay HSR.out (BQ.out.trans (hb2.mono BQ.out.size)))) (jI HSR.out (BQ.out.trans (hb2.mono BQ.out.size)))
     have HC2:Hid (∀ w2,Below wq.heap.size wq w2→Calls Tryz.prog 47 #[.slice A2 x.outs.length c2,.slice B2 y.outs.length g2] w2 fun e w'=>e=.returned (.bool (sm j9 x.outs y.outs))∧Below w2.heap.size w2 w'):=fun w2 hb2=>qA x.outs y.outs A2 B2 c2 g2 w2 S (by have exy:x=y:=(by have h1:=HX.out;rw[HXY.out] at h1;exact Option.some.inj (h1.symm.trans HY.out));rw[exy]) (HXO.out.2 x (j7 HX.out)).2.2.1.1 (H2.out.move (stay HSR.out (BQ.out.trans (hb2.mono BQ.out.size)))) (K2.out.move (stay HSR.out (BQ.out.trans (hb2.mono BQ.out.size)))) (jI HSR.out (BQ.out.trans (hb2.mono BQ.out.size)))
     have HC3:Hid (∀ w2,Below wq.heap.size wq w2→Calls Tryz.prog 47 #[.slice A3 x.locals.length c3,.slice B3 y.locals.length g3] w2 fun e w'=>e=.returned (.bool (sm j9 x.locals y.locals))∧Below w2.heap.size w2 w'):=fun w2 hb2=>qA x.locals y.locals A3 B3 c3 g3 w2 S (by have exy:x=y:=(by have h1:=HX.out;rw[HXY.out] at h1;exact Option.some.inj (h1.symm.trans HY.out));rw[exy]) (HXO.out.2 x (j7 HX.out)).2.2.2.1.1 (H3.out.move (stay HSR.out (BQ.out.trans (hb2.mono BQ.out.size)))) (K3.out.move (stay HSR.out (BQ.out.trans (hb2.mono BQ.out.size)))) (jI HSR.out (BQ.out.trans (hb2.mono BQ.out.size)))
     have hn:x.name=y.name:=by have exy:x=y:=(by have h1:=HX.out;rw[HXY.out] at h1;exact Option.some.inj (h1.symm.trans HY.out));rw[exy]
     ·have q1:(x.name == y.name)=true:=by simpa using hn
      have q2:(x.name != y.name)=false:=by simpa using hn
      have hs0:y9 x.name y.name=true:=decide_eq_true hn
      clear hn
      have hs1:sm j9 x.ins y.ins=true:=by have exy:x=y:=(by have h1:=HX.out;rw[HXY.out] at h1;exact Option.some.inj (h1.symm.trans HY.out));rw[exy];exact vG (fun v=>by unfold j9;simp) _
      ·rw[hs1] at HC1
       have hs2:sm j9 x.outs y.outs=true:=by have exy:x=y:=(by have h1:=HX.out;rw[HXY.out] at h1;exact Option.some.inj (h1.symm.trans HY.out));rw[exy];exact vG (fun v=>by unfold j9;simp) _
       ·rw[hs2] at HC2
        have hs3:sm j9 x.locals y.locals=true:=by have exy:x=y:=(by have h1:=HX.out;rw[HXY.out] at h1;exact Option.some.inj (h1.symm.trans HY.out));rw[exy];exact vG (fun v=>by unfold j9;simp) _
        ·rw[hs3] at HC3
         have hle:x.eqs.length=y.eqs.length:=by have exy:x=y:=(by have h1:=HX.out;rw[HXY.out] at h1;exact Option.some.inj (h1.symm.trans HY.out));rw[exy]
         ·have l1:((x.eqs.length:Int) == (y.eqs.length:Int))=true:=by rw[hle];exact beq_self_eq_true _
          have l2:((x.eqs.length:Int) != (y.eqs.length:Int))=false:=by rw[hle];simp
          have l3:(x.eqs.length == y.eqs.length)=true:=by rw[hle];exact beq_self_eq_true _
          have l4:(x.eqs.length != y.eqs.length)=false:=by rw[hle];simp
          have HLE:=YV hle
          have HNT:Hid (sm qa x.eqs y.eqs=true→ub x y=true):=fun h=>by simp[ub,hs0,hs1,hs2,hs3,h]
          clear hle
          go_wp2_with (first|(go_at_call 47;refine(HC1.out _ (Below.refl _ _)).mono ?_;rintro e w1 ⟨rfl,hb1⟩;have HD1:=YV hb1;have tx1:=(RX.out.below HD1.out RX.out.lt).cell;have x10:=tx1 0;have x11:=tx1 1;have x12:=tx1 2;have x13:=tx1 3;have x14:=tx1 4;simp at x10 x11 x12 x13 x14;clear tx1;have ty1:=(RY.out.below HD1.out RY.out.lt).cell;have y10:=ty1 0;have y11:=ty1 1;have y12:=ty1 2;have y13:=ty1 3;have y14:=ty1 4;simp at y10 y11 y12 y13 y14;clear ty1;clear hb1 HC1)|(go_at_call 47;refine(HC2.out _ HD1.out).mono ?_;rintro e w2 ⟨rfl,hb2⟩;have HD2:=YV (HD1.out.trans (hb2.mono HD1.out.size));have tx2:=(RX.out.below HD2.out RX.out.lt).cell;have x20:=tx2 0;have x21:=tx2 1;have x22:=tx2 2;have x23:=tx2 3;have x24:=tx2 4;simp at x20 x21 x22 x23 x24;clear tx2;have ty2:=(RY.out.below HD2.out RY.out.lt).cell;have y20:=ty2 0;have y21:=ty2 1;have y22:=ty2 2;have y23:=ty2 3;have y24:=ty2 4;simp at y20 y21 y22 y23 y24;clear ty2;clear hb2 HC2)|(go_at_call 47;refine(HC3.out _ HD2.out).mono ?_;rintro e w3 ⟨rfl,hb3⟩;have HD3:=YV (HD2.out.trans (hb3.mono HD2.out.size));have tx3:=(RX.out.below HD3.out RX.out.lt).cell;have x30:=tx3 0;have x31:=tx3 1;have x32:=tx3 2;have x33:=tx3 3;have x34:=tx3 4;simp at x30 x31 x32 x33 x34;clear tx3;have ty3:=(RY.out.below HD3.out RY.out.lt).cell;have y30:=ty3 0;have y31:=ty3 1;have y32:=ty3 2;have y33:=ty3 3;have y34:=ty3 4;simp at y30 y31 y32 y33 y34;clear ty3;clear hb3 HC3))
          go_loopw [4,8] (fun r k w2=>r=.bool false∧∃ i:Nat,i≤x.eqs.length∧k=.int .i64 i∧(∀ (q:Nat) u v,q<i→x.eqs[q]? = some u→y.eqs[q]? = some v→qa u v=true)∧Below wq.heap.size wq w2) (fun _ k _=>x.eqs.length - (intOf k).toNat)
          case atStart=>exact⟨rfl,0,by omega,rfl,fun q u v h=>by omega,HD3.out⟩
          case round=>
           obtain⟨rfl,i,hi,rfl,hsi,hbi⟩:=hrel
           clear x0 x1 x2 x3 x4 y0 y1 y2 y3 y4 x10 x11 x12 x13 x14 x20 x21 x22 x23 x24 x30 x31 x32 x33 x34 y10 y11 y12 y13 y14 y20 y21 y22 y23 y24 y30 y31 y32 y33 y34 hs1 hs2 hs3 q1 q2 l1 l2 l3 l4 d0 d1 d2 d3 d4 e0 e1 e2 e3 e4 r1 r2
           have HSI:=YV hsi
           have HBI:=YV hbi
           have hbo:Below wo.heap.size wo wr:=BQ.out.trans (hbi.mono BQ.out.size)
           have HBX:=YV hbo
           have hwo:=hbo.size
           have ZX:=YV (RX.out.below hbi RX.out.lt)
           have ZY:=YV (RY.out.below hbi RY.out.lt)
           have v4:=ZX.out.cell 4
           simp at v4
           clear hsi hbi
           by_cases hlt2:i<x.eqs.length
           ·obtain⟨p,hp⟩:∃ p,x.eqs[i]? = some p:=⟨_,List.getElem?_eq_getElem hlt2⟩
            obtain⟨q,hq⟩:∃ q,y.eqs[i]? = some q:=⟨_,List.getElem?_eq_getElem (by have:=HLE.out;omega)⟩
            obtain⟨b',off',P1,m1,P2,m2,rfl,e0,e1,e2,e3,e4,e5,ht1,hk1,hbl'⟩:=H4.out.at' HSR.out hbo hp
            obtain⟨b2',off2',Q1,n1,Q2,n2,rfl,f0,f1,f2,f3,f4,f5,ht2,hk2,hbl2'⟩:=K4.out.at' HSR.out hbo hq
            have hpo:=(HXO.out.2 x (j7 HX.out)).2.2.2.2.2 p (j7 hp)
            have hqo:=(HYO.out.2 y (j7 HY.out)).2.2.2.2.2 q (j7 hq)
            have hpl:=hpo.1.1
            have hql:=hqo.1.1
            have hlt3:i<y.eqs.length:=by have:=HLE.out;omega
            have hb1'':b'<wr.heap.size:=by omega
            have hb2'':b2'<wr.heap.size:=by omega
            have HP:=YV hp
            have HQ:=YV hq
            have HT1:=YV ht1
            have HT2:=YV ht2
            have HSW:Hid (∀ b,S b→b<wr.heap.size):=jI HSR.out hbo
            have HCX:Hid (∀ w2,Below wr.heap.size wr w2→Calls Tryz.prog 48 #[.agg #[.int .i64 p.rhs.k,.int .i64 p.rhs.o,.int .i64 p.rhs.n,.string ⟨p.rhs.s.toArray⟩,.slice P2 p.rhs.ks.length m2],.agg #[.int .i64 q.rhs.k,.int .i64 q.rhs.o,.int .i64 q.rhs.n,.string ⟨q.rhs.s.toArray⟩,.slice Q2 q.rhs.ks.length n2]] w2 fun e w'=>e=.returned (.bool (p.rhs.same q.rhs))∧Below w2.heap.size w2 w'):=fun w2 hb2=>
             kt 1099511627775 (Nat.le_refl _) p.rhs q.rhs P2 Q2 m2 n2 w2 S (by have exy:x=y:=(by have h1:=HX.out;rw[HXY.out] at h1;exact Option.some.inj (h1.symm.trans HY.out));have epq:p=q:=(by have h1:=HP.out;rw[exy] at h1;exact Option.some.inj (h1.symm.trans HQ.out));rw[epq]) hpo.2.2 (hk1.later HSW.out hb2) hqo.2.2 (hk2.later HSW.out hb2) (jI HSW.out hb2)
            have E0:=YV e0
            have E1:=YV e1
            have E2:=YV e2
            have E3:=YV e3
            have E4:=YV e4
            have E5:=YV e5
            have F0:=YV f0
            have F1:=YV f1
            have F2:=YV f2
            have F3:=YV f3
            have F4:=YV f4
            have F5:=YV f5
            clear hp hq hbo e0 e1 e2 e3 e4 e5 f0 f1 f2 f3 f4 f5 ht1 ht2 hk1 hk2 hpo hqo
            have hll:p.lhs.length=q.lhs.length:=by have exy:x=y:=(by have h1:=HX.out;rw[HXY.out] at h1;exact Option.some.inj (h1.symm.trans HY.out));have epq:p=q:=(by have h1:=HP.out;rw[exy] at h1;exact Option.some.inj (h1.symm.trans HQ.out));rw[epq]
            ·have l1:((p.lhs.length:Int) == (q.lhs.length:Int))=true:=by rw[hll];exact beq_self_eq_true _
             have l2:((p.lhs.length:Int) != (q.lhs.length:Int))=false:=by rw[hll];simp
             have l3:(p.lhs.length == q.lhs.length)=true:=by rw[hll];exact beq_self_eq_true _
             have l4:(p.lhs.length != q.lhs.length)=false:=by rw[hll];simp
             have HLL:=YV hll
             clear hll
             have hr:p.rhs.same q.rhs=true:=by have exy:x=y:=(by have h1:=HX.out;rw[HXY.out] at h1;exact Option.some.inj (h1.symm.trans HY.out));have epq:p=q:=(by have h1:=HP.out;rw[exy] at h1;exact Option.some.inj (h1.symm.trans HQ.out));rw[epq];exact X.same_refl _
             ·have HRS:=YV hr
              rw[hr] at HCX
              clear hr
              go_wp2_with fail
              refine Tame.wp_region_tame (by kernel_rfl) (by kernel_rfl) Tame.Later.refl Tame.Later.trans ?_
              repeat
               ((first
                |(refine Tame.walk_known (o:=⟨some 80,_,_,_,_,_⟩) (fun _=>rfl) ?_;apply Exists.intro;refine⟨fun vals w2 hL hd=>?_,?_⟩;(focus(have hb2:Below wr.heap.size wr w2:=zm hL (Nat.le_refl _);have v4:=(ZX.out.below hb2 ZX.out.lt).cell 4;simp at v4;clear hd hL hb2;go_simp;exact Tame.Is.mk (Tame.Later.refl _))))
                |(refine Tame.walk_known (o:=⟨some 84,_,_,_,_,_⟩) (fun _=>rfl) ?_;apply Exists.intro;refine⟨fun vals w2 hL hd=>?_,?_⟩;(focus(have hb2:Below wr.heap.size wr w2:=zm hL (Nat.le_refl _);have k0:=(hb2.cell (p:=⟨b',off'+i * 6,none⟩) (by show b'<_;omega)).trans E0.out;clear hd hL hb2;go_simp;exact Tame.Is.mk (Tame.Later.refl _))))
                |(refine Tame.walk_known (o:=⟨some 87,_,_,_,_,_⟩) (fun _=>rfl) ?_;apply Exists.intro;refine⟨fun vals w2 hL hd=>?_,?_⟩;(focus(have hb2:Below wr.heap.size wr w2:=zm hL (Nat.le_refl _);have v4:=(ZY.out.below hb2 ZY.out.lt).cell 4;simp at v4;clear hd hL hb2;go_simp;exact Tame.Is.mk (Tame.Later.refl _))))
                |(refine Tame.walk_known (o:=⟨some 91,_,_,_,_,_⟩) (fun _=>rfl) ?_;apply Exists.intro;refine⟨fun vals w2 hL hd=>?_,?_⟩;(focus(have hb2:Below wr.heap.size wr w2:=zm hL (Nat.le_refl _);have k0:=(hb2.cell (p:=⟨b2',off2'+i * 6,none⟩) (by show b2'<_;omega)).trans F0.out;clear hd hL hb2;go_simp;exact Tame.Is.mk (Tame.Later.refl _))))
                |(refine Tame.walk_known (o:=⟨some 93,_,_,_,_,_⟩) (fun _=>rfl) ?_;apply Exists.intro;refine⟨fun vals w2 hL hd=>?_,?_⟩;(focus(clear hd hL;go_simp;first | exact Tame.Is.mk (Tame.Later.refl _)|(simp only[l1,l2,l3,l4];exact Tame.Is.mk (Tame.Later.refl _)))))
                |(refine Tame.walk_known (o:=⟨some 96,_,_,_,_,_⟩) (fun _=>rfl) ?_;apply Exists.intro;refine⟨fun vals w2 hL hd=>?_,?_⟩;(focus(have hb2:Below wr.heap.size wr w2:=zm hL (Nat.le_refl _);have v4:=(ZX.out.below hb2 ZX.out.lt).cell 4;simp at v4;clear hd hL hb2;go_simp;exact Tame.Is.mk (Tame.Later.refl _))))
                |(refine Tame.walk_known (o:=⟨some 100,_,_,_,_,_⟩) (fun _=>rfl) ?_;apply Exists.intro;refine⟨fun vals w2 hL hd=>?_,?_⟩;(focus(have hb2:Below wr.heap.size wr w2:=zm hL (Nat.le_refl _);have k0:=(hb2.cell (p:=⟨b',off'+i * 6+1,none⟩) (by show b'<_;omega)).trans E1.out;have k1:=(hb2.cell (p:=⟨b',off'+i * 6+2,none⟩) (by show b'<_;omega)).trans E2.out;have k2:=(hb2.cell (p:=⟨b',off'+i * 6+3,none⟩) (by show b'<_;omega)).trans E3.out;have k3:=(hb2.cell (p:=⟨b',off'+i * 6+4,none⟩) (by show b'<_;omega)).trans E4.out;have k4:=(hb2.cell (p:=⟨b',off'+i * 6+5,none⟩) (by show b'<_;omega)).trans E5.out;clear hd hL hb2;go_simp;exact Tame.Is.mk (Tame.Later.refl _))))
                |(refine Tame.walk_known (o:=⟨some 102,_,_,_,_,_⟩) (fun _=>rfl) ?_;apply Exists.intro;refine⟨fun vals w2 hL hd=>?_,?_⟩;(focus(have hb2:Below wr.heap.size wr w2:=zm hL (Nat.le_refl _);have v4:=(ZY.out.below hb2 ZY.out.lt).cell 4;simp at v4;clear hd hL hb2;go_simp;exact Tame.Is.mk (Tame.Later.refl _))))
                |(refine Tame.walk_known (o:=⟨some 106,_,_,_,_,_⟩) (fun _=>rfl) ?_;apply Exists.intro;refine⟨fun vals w2 hL hd=>?_,?_⟩;(focus(have hb2:Below wr.heap.size wr w2:=zm hL (Nat.le_refl _);have k0:=(hb2.cell (p:=⟨b2',off2'+i * 6+1,none⟩) (by show b2'<_;omega)).trans F1.out;have k1:=(hb2.cell (p:=⟨b2',off2'+i * 6+2,none⟩) (by show b2'<_;omega)).trans F2.out;have k2:=(hb2.cell (p:=⟨b2',off2'+i * 6+3,none⟩) (by show b2'<_;omega)).trans F3.out;have k3:=(hb2.cell (p:=⟨b2',off2'+i * 6+4,none⟩) (by show b2'<_;omega)).trans F4.out;have k4:=(hb2.cell (p:=⟨b2',off2'+i * 6+5,none⟩) (by show b2'<_;omega)).trans F5.out;clear hd hL hb2;go_simp;exact Tame.Is.mk (Tame.Later.refl _))))
                |(refine Tame.walk_known (o:=⟨some 107,_,_,_,_,_⟩) (fun _=>rfl) ?_;apply Exists.intro;refine⟨fun vals w2 hL hd=>?_,?_⟩;(focus(have hb2:Below wr.heap.size wr w2:=zm hL (Nat.le_refl _);have HCC:=YV (HCX.out w2 hb2);clear hd hL hb2;go_simp;exact Tame.known HCC.out)))
                |(refine Tame.walk_known (fun _=>rfl) ?_;apply Exists.intro;refine⟨fun vals w2 hL hd=>?_,?_⟩;(focus(go_simp;first | exact Tame.Is.mk (Tame.Later.refl _)|(rw[if_neg];(focus exact Tame.Is.mk (Tame.Later.refl _));omega)))))
                simp only[Act.put,List.setIfInBounds_toArray,List.set_cons_zero,List.set_cons_succ,List.nil_append,List.cons_append])
              refine Tame.walk_end fun vals w5 hL _=>?_
              have H5:Hid (Below wr.heap.size wr w5):=zm hL (Nat.le_refl _)
              clear hL
              have hb5:=H5.out
              have M0:=YV ((hb5.cell (p:=⟨b',off'+i * 6,none⟩) (by show b'<_;omega)).trans E0.out)
              have N0:=YV ((hb5.cell (p:=⟨b2',off2'+i * 6,none⟩) (by show b2'<_;omega)).trans F0.out)
              have TX:=YV (ZX.out.below hb5 ZX.out.lt)
              have TY:=YV (ZY.out.below hb5 ZY.out.lt)
              have hw5:=hb5.size
              clear hb5
              obtain⟨wi,rfl⟩:∃ wi,wi=wr:=⟨wr,rfl⟩
              clear E0 E1 E2 E3 E4 E5 F0 F1 F2 F3 F4 F5
              have E0:=M0
              have F0:=N0
              clear M0 N0
              go_wp2_with fail
              go_loopw [4,9] (fun r k w2=>r=.bool false∧∃ t:Nat,t≤p.lhs.length∧k=.int .i64 t∧(∀ (q0:Nat) u v,q0<t→p.lhs[q0]? = some u→q.lhs[q0]? = some v→y9 u v=true)∧Below w5.heap.size w5 w2) (fun _ k _=>p.lhs.length - (intOf k).toNat)
              case atStart=>exact⟨rfl,0,by omega,rfl,fun q u v h=>by omega,Below.refl _ _⟩
              case round=>
               obtain⟨rfl,t,hti,rfl,hst,hbt⟩:=hrel
               have HST:=YV hst
               have HBT:=YV hbt
               have hbtw:Below wi.heap.size wi wr:=H5.out.trans (hbt.mono H5.out.size)
               have HBTW:=YV hbtw
               have hwi:=hbtw.size
               have YX:=YV (TX.out.below hbt TX.out.lt)
               have YY:=YV (TY.out.below hbt TY.out.lt)
               have s4:=YX.out.cell 4
               simp at s4
               have m0:=(hbt.cell (p:=⟨b',off'+i * 6,none⟩) (by show b'<_;omega)).trans E0.out
               have n0:=(hbt.cell (p:=⟨b2',off2'+i * 6,none⟩) (by show b2'<_;omega)).trans F0.out
               have M0:=YV m0
               have N0:=YV n0
               clear hst hbt n0
               by_cases hlt4:t<p.lhs.length
               ·obtain⟨u,hu⟩:∃ u,p.lhs[t]? = some u:=⟨_,List.getElem?_eq_getElem hlt4⟩
                obtain⟨v,hv⟩:∃ v,q.lhs[t]? = some v:=⟨_,List.getElem?_eq_getElem (by have:=HLL.out;omega)⟩
                obtain⟨b3,off3,rfl,g0,hbl3⟩:=HT1.out.at' HSW.out hbtw hu
                obtain⟨b4,off4,rfl,j0,hbl4⟩:=HT2.out.at' HSW.out hbtw hv
                have hlt5:t<q.lhs.length:=by have:=HLL.out;omega
                have hb3':b3<wr.heap.size:=by omega
                have hb4':b4<wr.heap.size:=by omega
                have hb5':b'<wr.heap.size:=by omega
                have hb6':b2'<wr.heap.size:=by omega
                have G0:=YV g0
                have J0:=YV j0
                have HU:=YV hu
                have HV:=YV hv
                clear hu hv g0 j0 hbtw
                have he:u=v:=by have exy:x=y:=(by have h1:=HX.out;rw[HXY.out] at h1;exact Option.some.inj (h1.symm.trans HY.out));have epq:p=q:=(by have h1:=HP.out;rw[exy] at h1;exact Option.some.inj (h1.symm.trans HQ.out));have h1:=HU.out;rw[epq] at h1;exact Option.some.inj (h1.symm.trans HV.out)
                ·have q3:(u == v)=true:=by simpa using he
                 have q4:(u != v)=false:=by simpa using he
                 have HE:Hid (y9 u v=true):=decide_eq_true he
                 clear he
                 go_wp2_with fail
                 refine Tame.wp_region_tame (by kernel_rfl) (by kernel_rfl) Tame.Later.refl Tame.Later.trans ?_
                 repeat
                  ((first
                   |(refine Tame.walk_known (o:=⟨some 122,_,_,_,_,_⟩) (fun _=>rfl) ?_;apply Exists.intro;refine⟨fun vals w2 hL hd=>?_,?_⟩;(focus(have hb2:Below wr.heap.size wr w2:=zm hL (Nat.le_refl _);have v4:=(YX.out.below hb2 YX.out.lt).cell 4;simp at v4;clear hd hL hb2;go_simp;exact Tame.Is.mk (Tame.Later.refl _))))
                   |(refine Tame.walk_known (o:=⟨some 126,_,_,_,_,_⟩) (fun _=>rfl) ?_;apply Exists.intro;refine⟨fun vals w2 hL hd=>?_,?_⟩;(focus(have hb2:Below wr.heap.size wr w2:=zm hL (Nat.le_refl _);have k0:=(hb2.cell (p:=⟨b',off'+i * 6,none⟩) (by show b'<_;omega)).trans M0.out;clear hd hL hb2;go_simp;exact Tame.Is.mk (Tame.Later.refl _))))
                   |(refine Tame.walk_known (o:=⟨some 129,_,_,_,_,_⟩) (fun _=>rfl) ?_;apply Exists.intro;refine⟨fun vals w2 hL hd=>?_,?_⟩;(focus(have hb2:Below wr.heap.size wr w2:=zm hL (Nat.le_refl _);have k0:=(hb2.cell (p:=⟨b3,off3+t,none⟩) (by show b3<_;omega)).trans G0.out;clear hd hL hb2;go_simp;exact Tame.Is.mk (Tame.Later.refl _))))
                   |(refine Tame.walk_known (o:=⟨some 131,_,_,_,_,_⟩) (fun _=>rfl) ?_;apply Exists.intro;refine⟨fun vals w2 hL hd=>?_,?_⟩;(focus(have hb2:Below wr.heap.size wr w2:=zm hL (Nat.le_refl _);have v4:=(YY.out.below hb2 YY.out.lt).cell 4;simp at v4;clear hd hL hb2;go_simp;exact Tame.Is.mk (Tame.Later.refl _))))
                   |(refine Tame.walk_known (o:=⟨some 135,_,_,_,_,_⟩) (fun _=>rfl) ?_;apply Exists.intro;refine⟨fun vals w2 hL hd=>?_,?_⟩;(focus(have hb2:Below wr.heap.size wr w2:=zm hL (Nat.le_refl _);have k0:=(hb2.cell (p:=⟨b2',off2'+i * 6,none⟩) (by show b2'<_;omega)).trans N0.out;clear hd hL hb2;go_simp;exact Tame.Is.mk (Tame.Later.refl _))))
                   |(refine Tame.walk_known (o:=⟨some 138,_,_,_,_,_⟩) (fun _=>rfl) ?_;apply Exists.intro;refine⟨fun vals w2 hL hd=>?_,?_⟩;(focus(have hb2:Below wr.heap.size wr w2:=zm hL (Nat.le_refl _);have k0:=(hb2.cell (p:=⟨b4,off4+t,none⟩) (by show b4<_;omega)).trans J0.out;clear hd hL hb2;go_simp;exact Tame.Is.mk (Tame.Later.refl _))))
                   |(refine Tame.walk_known (o:=⟨some 139,_,_,_,_,_⟩) (fun _=>rfl) ?_;apply Exists.intro;refine⟨fun vals w2 hL hd=>?_,?_⟩;(focus(clear hd hL;go_simp;first | exact Tame.Is.mk (Tame.Later.refl _)|(simp only[q3,q4];exact Tame.Is.mk (Tame.Later.refl _)))))
                   |(refine Tame.walk_known (fun _=>rfl) ?_;apply Exists.intro;refine⟨fun vals w2 hL hd=>?_,?_⟩;(focus(go_simp;first | exact Tame.Is.mk (Tame.Later.refl _)|(rw[if_neg];(focus exact Tame.Is.mk (Tame.Later.refl _));omega)))))
                   simp only[Act.put,List.setIfInBounds_toArray,List.set_cons_zero,List.set_cons_succ,List.nil_append,List.cons_append])
                 refine Tame.walk_end fun vals w7 hL _=>?_
                 have H7:Hid (Below wr.heap.size wr w7):=zm hL (Nat.le_refl _)
                 clear hL
                 go_wp2_with fail
                 go_roundw
                 case rel=>exact⟨rfl,t+1,by omega,by go_num,fun q0 u' v' hq hu hv=>by
                  by_cases e:q0=t
                  ·subst e;rw[HU.out] at hu;rw[HV.out] at hv;injection hu with hu;injection hv with hv;rw[← hu,← hv];exact HE.out
                  ·exact HST.out q0 u' v' (by omega) hu hv,HBT.out.trans (H7.out.mono HBT.out.size)⟩
                 case measure=>simp[intOf];omega
               ·have HE:Hid (qa p q=true):=YV (by
                 rw[qa,HRS.out,y7 HLL.out fun q0 u v hu hv=>HST.out q0 u v (by
                  rcases Nat.lt_or_ge q0 p.lhs.length with h' | h'
                  ·omega
                  ·rw[List.getElem?_eq_none h'] at hu;cases hu) hu hv];rfl)
                have hb5':b'<wr.heap.size:=by omega
                clear hbtw
                go_wp2_with fail
                go_roundw
                case rel=>exact⟨rfl,i+1,by omega,by go_num,fun q0 u v hq hu hv=>by
                 by_cases e:q0=i
                 ·subst e;rw[HP.out] at hu;rw[HQ.out] at hv;injection hu with hu;injection hv with hv;rw[← hu,← hv];exact HE.out
                 ·exact HSI.out q0 u v (by omega) hu hv,HBI.out.trans (HBTW.out.mono HBI.out.size)⟩
                case measure=>simp[intOf];omega
           ·have HE:Hid (ub x y=true):=HNT.out (y7 HLE.out fun q0 u v hu hv=>HSI.out q0 u v (by
             rcases Nat.lt_or_ge q0 x.eqs.length with h' | h'
             ·omega
             ·rw[List.getElem?_eq_none h'] at hu;cases hu) hu hv)
            clear hbo
            go_wp2_with fail
            go_roundw
            case rel=>exact⟨rfl,j+1,by omega,by go_num,fun q0 u v hq hu hv=>by
             by_cases e:q0=j
             ·subst e;rw[HX.out] at hu;rw[HY.out] at hv;injection hu with hu;injection hv with hv;rw[← hu,← hv];exact HE.out
             ·exact HSM.out q0 u v (by omega) hu hv,HBW0.out.trans (HBX.out.mono HBW0.out.size)⟩
            case measure=>simp[intOf];omega
   ·have HE:Hid (sm ub xs ys=true):=y7 HL.out fun q x y hx hy=>HSM.out q x y (by
     rcases Nat.lt_or_ge q xs.length with h' | h'
     ·omega
     ·rw[List.getElem?_eq_none h'] at hx;cases hx) hx hy
    have HBW:=YV hbw
    clear hbw
    go_wp2_with fail
    go_ret
    exact⟨jq HE.out.symm,HBW.out⟩
end Go.Proofs.YtdabndiaflagpaaGreatDoor
