/- Parts: PsE5, PsE6. -/
import Derived.Test.YtdabndiaflagpaaGreatDoorK10
set_option maxRecDepth 100000
set_option maxHeartbeats 4000000
namespace Go.Proofs.YtdabndiaflagpaaGreatDoor
open Go.RowKit
structure Bx (b:Nat) (wx:World) (p:Nat) (t:TypeId) (cs:Array Value) (wi:World):Prop where
 row:Row wi p t cs
 lo:wx.heap.size≤p
 hb:b<wx.heap.size
theorem Bx.grow {b p:Nat} {wx wi wj:World} {t:TypeId} {cs:Array Value} (h:Bx b wx p t cs wi) (g2:wi.grownBy wj (some b)):Bx b wx p t cs wj:=
 ⟨h.row.grown g2 (fun e=>by injection e with e;have:=h.lo;have:=h.hb;omega),h.lo,h.hb⟩
theorem Bx.below {b p:Nat} {wx wi wj:World} {t:TypeId} {cs:Array Value} (h:Bx b wx p t cs wi) (g1:Below wi.heap.size wi wj):Bx b wx p t cs wj:=h.grow (zb g1 b)
theorem pAtom (s:T) (B b f o:Nat) (L:List Tk) (w:World) (ih:PE s B b f) (hf:16 * L.length+4≤f+1) (h:StT s B w b L o) (he:zv b w) :
  Calls Tryz.prog 195 #[.pointer (some ⟨b,0,none⟩)] w (PRes s b B w o (TrV w.heap.size) (jW (f+1) L o)):=by
 obtain⟨R,hR⟩:∃ R,R=jW (f+1) L o:=⟨_,rfl⟩
 rw[← hR]
 have hbB:=h.base_
 have hBw:=h.room_
 obtain⟨wx,hwx⟩:∃ wx,wx=w.alloc (.cells #[.int .i64 0,.int .i64 0,.int .i64 0,.string ⟨#[]⟩,.slice none 0 0,.int .i64 0] 198):=⟨_,rfl⟩
 have hbx:Below w.heap.size w wx:=by rw[hwx];exact(Below.refl _ _).alloc (Nat.le_refl _) _
 have hxz:wx.heap.size=w.heap.size+1:=by rw[hwx];simp
 have HXZ:=YV hxz
 have HPX:Hid (Row wx w.heap.size 198 z6):=YV (by rw[hwx];exact Row.made _ _ _)
 have hbxx:b<wx.heap.size:=by omega
 have hpb:w.heap.size≠b:=by omega
 have HGX:=YV (zb hbx b)
 have HA0:Hid (At s B b wx L o wx):=YV (At.refl (h.later hbx) (he.grown (zc hbx none) (by omega) (fun _ e=>by cases e)))
 clear hbx hxz
 rw[jW] at hR
 have HWF:=YV h.wf_
 obtain⟨t,r,rfl⟩:=h.hd
 have HN:Hid (∀ w1,StT s B w1 b (t::r) o→_):=YV fun w1 h1=>qk s B b o t r w1 h1
 have HM1:Hid (∀ w1,StT s B w1 b (t::r) o→_):=YV fun w1 h1=>pMay s B b o ju (t::r) w1 h1 (by decide)
 have HM2:Hid (∀ w1,StT s B w1 b (t::r) o→_):=YV fun w1 h1=>pMay s B b o jK (t::r) w1 h1 (by decide)
 obtain⟨k,hk⟩:∃ k,k=t.kind:=⟨_,rfl⟩
 obtain⟨x,hx⟩:∃ x,x=t.text:=⟨_,rfl⟩
 obtain⟨n,hn⟩:∃ n,n=t.n:=⟨_,rfl⟩
 obtain⟨z1,hz1⟩:∃ z,z=(plAt s t.from_).1:=⟨_,rfl⟩
 obtain⟨z2,hz2⟩:∃ z,z=(plAt s t.from_).2:=⟨_,rfl⟩
 rw[← hk,← hx,← hn,← hz1,← hz2] at HN
 have hkk:hdK (t::r)=k:=hk.symm
 have hnn:hdN (t::r)=n:=hn.symm
 have htl:(t::r).tail=r:=rfl
 rw[hnn,htl] at hR
 rw[htl] at HM1 HM2
 clear hk hx hn hz1 hz2 hnn htl
 by_cases hk3:hdK (t::r)=3
 ·have ht:=(j4 h.wf_ hk3 (by decide)).1
  rw[if_pos hk3] at hR
  rw[hkk] at hk3
  subst hk3
  have HR:=YV hR
  have HPS:Hid (∀ w1,StT s B w1 b (t::r) o→_):=YV fun w1 h1=>xW s B b o (t::r) w1 h1 ht
  clear hR h he ht hkk
  go_enter Tryz.func195,Tryz.ntmps195
  go_upto_region 1 with fail
  rw[← hwx]
  clear hwx
  go_upto_region 2 with (go_at_call 64;refine(HN.out _ HA0.out.st).mono ?_;rintro e w1 ⟨rfl,g1⟩;have HA1:Hid (At s B b wx (t::r) o (w1.alloc (.cells #[.int .i64 3,.string ⟨x.toArray⟩,.int .i64 n,.int .i64 z1,.int .i64 z2] 141))):=YV ((HA0.out.below g1).alloc _);have HKt_1:Hid (Bx b wx w1.heap.size 141 #[.int .i64 3,.string ⟨x.toArray⟩,.int .i64 n,.int .i64 z1,.int .i64 z2] (w1.alloc (.cells #[.int .i64 3,.string ⟨x.toArray⟩,.int .i64 n,.int .i64 z1,.int .i64 z2] 141))):=YV ⟨Row.made _ _ _,(HA0.out.below g1).size,hbxx⟩;clear g1 HN)
  generalize w1.alloc (.cells #[.int .i64 3,.string ⟨x.toArray⟩,.int .i64 n,.int .i64 z1,.int .i64 z2] 141)=v1 at HA1 HKt_1 ⊢
  have y0:=HKt_1.out.row.cell 0
  have hpz:=HKt_1.out.row.lt
  simp at y0
  go_wp2_with (first|(go_at_call 132;refine(HPS.out _ HA1.out.st).mono ?_;rintro e w2 ⟨rfl,g1,g2⟩;have HA2:=YV (HA1.out.grow g1 g2);have HKt_2:=YV (HKt_1.out.grow g2);clear g1 g2 HPS;have y2:=HKt_2.out.row.cell 2;have hpz2:=HKt_2.out.row.lt;simp at y2)|(go_at_call 179;refine(yd 0 0 n [] _).mono ?_;rintro e w3 ⟨A9,c9,rfl,hk,hb⟩;have HA3:=YV (HA2.out.below hb);have HK9:=YV (hk wx.heap.size);have HROW:=HA3.out.row HPX.out hpb;clear hk hb)|(refine wpList_store_row (o:=⟨none,Op.store _ _ _,_,_,_,_⟩) rfl _ _ _ rfl w.heap.size (t6 (X.mk 0 0 n [] []) A9 c9) rfl rfl _ _ HROW (jh _ _ _) rfl (jC _ _ _) ?_))
  obtain⟨t1,t2,t3,t4⟩:=zO (x:=X.mk 0 0 n [] []) (A:=A9) (c:=c9) (za HGX.out HA3.out.grown) HROW (by rw[← HXZ.out];exact HK9.out) HA3.out.st hBw
  exact bodyPost_ret (results_cell_row rfl _ _ w.heap.size _ _ _ _ rfl t4 Tryz.underlying198 rfl zG) rfl (PRes.okI HR.out t1 rfl ⟨A9,c9,rfl,t2⟩ t3)
 ·rw[if_neg hk3] at hR
  rw[hkk] at hk3
  have hk3b:(k == 3)=false:=beq_eq_false_iff_ne.2 hk3
  by_cases hf1:isP ju (t::r)=true
  ·rw[if_pos hf1] at hR HM1
   rw[hf1] at HM1
   have HR:=YV hR
   clear hR h he hkk hk3 hf1 HM2
   go_enter Tryz.func195,Tryz.ntmps195
   go_upto_region 1 with fail
   rw[← hwx]
   clear hwx
   go_upto_region 2 with (go_at_call 64;refine(HN.out _ HA0.out.st).mono ?_;rintro e w1 ⟨rfl,g1⟩;have HA1:Hid (At s B b wx (t::r) o (w1.alloc (.cells #[.int .i64 k,.string ⟨x.toArray⟩,.int .i64 n,.int .i64 z1,.int .i64 z2] 141))):=YV ((HA0.out.below g1).alloc _);have HKt_1:Hid (Bx b wx w1.heap.size 141 #[.int .i64 k,.string ⟨x.toArray⟩,.int .i64 n,.int .i64 z1,.int .i64 z2] (w1.alloc (.cells #[.int .i64 k,.string ⟨x.toArray⟩,.int .i64 n,.int .i64 z1,.int .i64 z2] 141))):=YV ⟨Row.made _ _ _,(HA0.out.below g1).size,hbxx⟩;clear g1 HN)
   generalize w1.alloc (.cells #[.int .i64 k,.string ⟨x.toArray⟩,.int .i64 n,.int .i64 z1,.int .i64 z2] 141)=v1 at HA1 HKt_1 ⊢
   have y0:=HKt_1.out.row.cell 0
   have hpz:=HKt_1.out.row.lt
   simp at y0
   go_wp2_with (first|(go_at_call 102;refine(HM1.out _ HA1.out.st).mono ?_;rintro e w2 ⟨rfl,g1,g2⟩;have HA2:=YV (HA1.out.grow g1 g2);clear g1 g2 HM1)|(go_at_call 179;refine(yd 1 0 0 [] _).mono ?_;rintro e w3 ⟨A9,c9,rfl,hk,hb⟩;have HA3:=YV (HA2.out.below hb);have HK9:=YV (hk wx.heap.size);have HROW:=HA3.out.row HPX.out hpb;clear hk hb)|(refine wpList_store_row (o:=⟨none,Op.store _ _ _,_,_,_,_⟩) rfl _ _ _ rfl w.heap.size (t6 (X.mk 1 0 0 [] []) A9 c9) rfl rfl _ _ HROW (jh _ _ _) rfl (jC _ _ _) ?_))
   obtain⟨t1,t2,t3,t4⟩:=zO (x:=X.mk 1 0 0 [] []) (A:=A9) (c:=c9) (za HGX.out HA3.out.grown) HROW (by rw[← HXZ.out];exact HK9.out) HA3.out.st hBw
   exact bodyPost_ret (results_cell_row rfl _ _ w.heap.size _ _ _ _ rfl t4 Tryz.underlying198 rfl zG) rfl (PRes.okI HR.out t1 rfl ⟨A9,c9,rfl,t2⟩ t3)
  ·rw[if_neg hf1] at hR HM1
   have hf1b:isP ju (t::r)=false:=by simpa using hf1
   rw[hf1b] at HM1
   by_cases ht1:isP jK (t::r)=true
   ·rw[if_pos ht1] at hR HM2
    rw[ht1] at HM2
    have HR:=YV hR
    clear hR h he hkk hk3 hf1 hf1b ht1
    go_enter Tryz.func195,Tryz.ntmps195
    go_upto_region 1 with fail
    rw[← hwx]
    clear hwx
    go_upto_region 2 with (go_at_call 64;refine(HN.out _ HA0.out.st).mono ?_;rintro e w1 ⟨rfl,g1⟩;have HA1:Hid (At s B b wx (t::r) o (w1.alloc (.cells #[.int .i64 k,.string ⟨x.toArray⟩,.int .i64 n,.int .i64 z1,.int .i64 z2] 141))):=YV ((HA0.out.below g1).alloc _);have HKt_1:Hid (Bx b wx w1.heap.size 141 #[.int .i64 k,.string ⟨x.toArray⟩,.int .i64 n,.int .i64 z1,.int .i64 z2] (w1.alloc (.cells #[.int .i64 k,.string ⟨x.toArray⟩,.int .i64 n,.int .i64 z1,.int .i64 z2] 141))):=YV ⟨Row.made _ _ _,(HA0.out.below g1).size,hbxx⟩;clear g1 HN)
    generalize w1.alloc (.cells #[.int .i64 k,.string ⟨x.toArray⟩,.int .i64 n,.int .i64 z1,.int .i64 z2] 141)=v1 at HA1 HKt_1 ⊢
    have y0:=HKt_1.out.row.cell 0
    have hpz:=HKt_1.out.row.lt
    simp at y0
    go_wp2_with (first|(go_at_call 102;refine(HM1.out _ HA1.out.st).mono ?_;rintro e w2 ⟨rfl,g1,g2⟩;have HA2:=YV (HA1.out.grow g1 g2);clear g1 g2 HM1)|(go_at_call 102;refine(HM2.out _ HA2.out.st).mono ?_;rintro e w3 ⟨rfl,g1,g2⟩;have HA3:=YV (HA2.out.grow g1 g2);clear g1 g2 HM2)|(go_at_call 179;refine(yd 1 0 1 [] _).mono ?_;rintro e w4 ⟨A9,c9,rfl,hk,hb⟩;have HA4:=YV (HA3.out.below hb);have HK9:=YV (hk wx.heap.size);have HROW:=HA4.out.row HPX.out hpb;clear hk hb)|(refine wpList_store_row (o:=⟨none,Op.store _ _ _,_,_,_,_⟩) rfl _ _ _ rfl w.heap.size (t6 (X.mk 1 0 1 [] []) A9 c9) rfl rfl _ _ HROW (jh _ _ _) rfl (jC _ _ _) ?_))
    obtain⟨t1,t2,t3,t4⟩:=zO (x:=X.mk 1 0 1 [] []) (A:=A9) (c:=c9) (za HGX.out HA4.out.grown) HROW (by rw[← HXZ.out];exact HK9.out) HA4.out.st hBw
    exact bodyPost_ret (results_cell_row rfl _ _ w.heap.size _ _ _ _ rfl t4 Tryz.underlying198 rfl zG) rfl (PRes.okI HR.out t1 rfl ⟨A9,c9,rfl,t2⟩ t3)
   ·rw[if_neg ht1] at hR HM2
    have ht1b:isP jK (t::r)=false:=by simpa using ht1
    rw[ht1b] at HM2
    by_cases hk1:hdK (t::r)=1
    ·rw[if_pos hk1] at hR
     have HC:Hid (∀ w1,StT s B w1 b (t::r) o→zv b w1→_):=YV fun w1 h1 h2=>ZU s B b f o (t::r) w1 ih (by omega) hk1 h1 h2
     have htl:(t::r).tail=r:=rfl
     rw[htl] at HC
     rw[hkk] at hk1
     subst hk1
     obtain⟨SP,hSP⟩:∃ SP,SP=(if isP [40] r=true then (zy f r o).bind fun ks L'=>.ok (X.mk 6 0 0 (hdT (t::r)) ks) L' else .ok (X.mk 2 0 0 (hdT (t::r)) []) r:Pr X):=⟨_,rfl⟩
     rw[← hSP] at HC hR
     rcases SP.cases with ⟨y,L1,hE⟩ | ⟨c,a,hE⟩
     ·rw[hE] at hR HC
      have HR:=YV hR
      clear hR h he hkk hk3 hf1 hf1b ht1 ht1b hE hSP
      go_enter Tryz.func195,Tryz.ntmps195
      go_upto_region 1 with fail
      rw[← hwx]
      clear hwx
      go_upto_region 2 with (go_at_call 64;refine(HN.out _ HA0.out.st).mono ?_;rintro e w1 ⟨rfl,g1⟩;have HA1:Hid (At s B b wx (t::r) o (w1.alloc (.cells #[.int .i64 1,.string ⟨x.toArray⟩,.int .i64 n,.int .i64 z1,.int .i64 z2] 141))):=YV ((HA0.out.below g1).alloc _);have HKt_1:Hid (Bx b wx w1.heap.size 141 #[.int .i64 1,.string ⟨x.toArray⟩,.int .i64 n,.int .i64 z1,.int .i64 z2] (w1.alloc (.cells #[.int .i64 1,.string ⟨x.toArray⟩,.int .i64 n,.int .i64 z1,.int .i64 z2] 141))):=YV ⟨Row.made _ _ _,(HA0.out.below g1).size,hbxx⟩;clear g1 HN)
      generalize w1.alloc (.cells #[.int .i64 1,.string ⟨x.toArray⟩,.int .i64 n,.int .i64 z1,.int .i64 z2] 141)=v1 at HA1 HKt_1 ⊢
      have y0:=HKt_1.out.row.cell 0
      have hpz:=HKt_1.out.row.lt
      simp at y0
      go_wp2_with (first|(go_at_call 102;refine(HM1.out _ HA1.out.st).mono ?_;rintro e w2 ⟨rfl,g1,g2⟩;have HA2:=YV (HA1.out.grow g1 g2);have HKt_2:=YV (HKt_1.out.grow g2);clear g1 g2 HM1)|(go_at_call 102;refine(HM2.out _ HA2.out.st).mono ?_;rintro e w3 ⟨rfl,g1,g2⟩;have HA3:=YV (HA2.out.grow g1 g2);have HKt_3:=YV (HKt_2.out.grow g2);clear g1 g2 HM2;have y3:=HKt_3.out.row.cell 0;have hpz3:=HKt_3.out.row.lt;simp at y3)|(go_at_call 198;refine(HC.out _ HA3.out.st HA3.out.env).mono ?_;intro e w4 h2;obtain⟨v,rfl,⟨A9,c9,rfl,hk⟩,g1,g2⟩:=h2.okE rfl;have HA4:=YV (HA3.out.grow g1 g2);have HK9:Hid (KS w4 (Bt wx.heap.size w4.heap.size) A9 (y).ks):=YV (hk.widen fun q hq=>⟨Nat.le_trans HA3.out.size hq.1,hq.2⟩);have HROW:=HA4.out.row HPX.out hpb;clear g1 g2 h2 hk HC)|(refine wpList_store_row (o:=⟨none,Op.store _ _ _,_,_,_,_⟩) rfl _ _ _ rfl w.heap.size (t6 (y) A9 c9) rfl rfl _ _ HROW (jh _ _ _) rfl (jC _ _ _) ?_))
      obtain⟨t1,t2,t3,t4⟩:=zO (x:=y) (A:=A9) (c:=c9) (za HGX.out HA4.out.grown) HROW (by rw[← HXZ.out];exact HK9.out) HA4.out.st hBw
      exact bodyPost_ret (results_cell_row rfl _ _ w.heap.size _ _ _ _ rfl t4 Tryz.underlying198 rfl zG) rfl (PRes.okI HR.out t1 rfl ⟨A9,c9,rfl,t2⟩ t3)
     ·rw[hE] at hR HC
      have HR:=YV hR
      clear hR h he hkk hk3 hf1 hf1b ht1 ht1b hE hSP
      go_enter Tryz.func195,Tryz.ntmps195
      go_upto_region 1 with fail
      rw[← hwx]
      clear hwx
      go_upto_region 2 with (go_at_call 64;refine(HN.out _ HA0.out.st).mono ?_;rintro e w1 ⟨rfl,g1⟩;have HA1:Hid (At s B b wx (t::r) o (w1.alloc (.cells #[.int .i64 1,.string ⟨x.toArray⟩,.int .i64 n,.int .i64 z1,.int .i64 z2] 141))):=YV ((HA0.out.below g1).alloc _);have HKt_1:Hid (Bx b wx w1.heap.size 141 #[.int .i64 1,.string ⟨x.toArray⟩,.int .i64 n,.int .i64 z1,.int .i64 z2] (w1.alloc (.cells #[.int .i64 1,.string ⟨x.toArray⟩,.int .i64 n,.int .i64 z1,.int .i64 z2] 141))):=YV ⟨Row.made _ _ _,(HA0.out.below g1).size,hbxx⟩;clear g1 HN)
      generalize w1.alloc (.cells #[.int .i64 1,.string ⟨x.toArray⟩,.int .i64 n,.int .i64 z1,.int .i64 z2] 141)=v1 at HA1 HKt_1 ⊢
      have y0:=HKt_1.out.row.cell 0
      have hpz:=HKt_1.out.row.lt
      simp at y0
      go_wp2_with (first|(go_at_call 102;refine(HM1.out _ HA1.out.st).mono ?_;rintro e w2 ⟨rfl,g1,g2⟩;have HA2:=YV (HA1.out.grow g1 g2);have HKt_2:=YV (HKt_1.out.grow g2);clear g1 g2 HM1)|(go_at_call 102;refine(HM2.out _ HA2.out.st).mono ?_;rintro e w3 ⟨rfl,g1,g2⟩;have HA3:=YV (HA2.out.grow g1 g2);have HKt_3:=YV (HKt_2.out.grow g2);clear g1 g2 HM2;have y3:=HKt_3.out.row.cell 0;have hpz3:=HKt_3.out.row.lt;simp at y3)|(go_at_call 198;refine(HC.out _ HA3.out.st HA3.out.env).mono ?_;intro e w4 h2;obtain⟨rfl,g2⟩:=h2.badE rfl;have HGB:=YV (za HA3.out.grown g2);clear g2 h2 HC))
      exact⟨rfl,PRes.badI HR.out (za HGX.out HGB.out) rfl⟩
    ·rw[if_neg hk1] at hR
     rw[hkk] at hk1
     have hk1b:(k == 1)=false:=beq_eq_false_iff_ne.2 hk1
     have HC:Hid (∀ w1,StT s B w1 b (t::r) o→zv b w1→_):=YV fun w1 h1 h2=>ih.bracket o (t::r) w1 (by omega) h1 h2
     rcases (zD f (t::r) o).cases with ⟨y,L1,hE⟩ | ⟨c,a,hE⟩
     ·rw[hE] at hR HC
      have HR:=YV hR
      clear hR h he hkk hk3 hf1 hf1b ht1 ht1b hE hk1
      go_enter Tryz.func195,Tryz.ntmps195
      go_upto_region 1 with fail
      rw[← hwx]
      clear hwx
      go_upto_region 2 with (go_at_call 64;refine(HN.out _ HA0.out.st).mono ?_;rintro e w1 ⟨rfl,g1⟩;have HA1:Hid (At s B b wx (t::r) o (w1.alloc (.cells #[.int .i64 k,.string ⟨x.toArray⟩,.int .i64 n,.int .i64 z1,.int .i64 z2] 141))):=YV ((HA0.out.below g1).alloc _);have HKt_1:Hid (Bx b wx w1.heap.size 141 #[.int .i64 k,.string ⟨x.toArray⟩,.int .i64 n,.int .i64 z1,.int .i64 z2] (w1.alloc (.cells #[.int .i64 k,.string ⟨x.toArray⟩,.int .i64 n,.int .i64 z1,.int .i64 z2] 141))):=YV ⟨Row.made _ _ _,(HA0.out.below g1).size,hbxx⟩;clear g1 HN)
      generalize w1.alloc (.cells #[.int .i64 k,.string ⟨x.toArray⟩,.int .i64 n,.int .i64 z1,.int .i64 z2] 141)=v1 at HA1 HKt_1 ⊢
      have y0:=HKt_1.out.row.cell 0
      have hpz:=HKt_1.out.row.lt
      simp at y0
      go_wp2_with (first|(go_at_call 102;refine(HM1.out _ HA1.out.st).mono ?_;rintro e w2 ⟨rfl,g1,g2⟩;have HA2:=YV (HA1.out.grow g1 g2);have HKt_2:=YV (HKt_1.out.grow g2);clear g1 g2 HM1)|(go_at_call 102;refine(HM2.out _ HA2.out.st).mono ?_;rintro e w3 ⟨rfl,g1,g2⟩;have HA3:=YV (HA2.out.grow g1 g2);have HKt_3:=YV (HKt_2.out.grow g2);clear g1 g2 HM2;have y3:=HKt_3.out.row.cell 0;have hpz3:=HKt_3.out.row.lt;simp at y3)|(go_at_call 199;refine(HC.out _ HA3.out.st HA3.out.env).mono ?_;intro e w4 h2;obtain⟨v,rfl,⟨A9,c9,rfl,hk⟩,g1,g2⟩:=h2.okE rfl;have HA4:=YV (HA3.out.grow g1 g2);have HK9:Hid (KS w4 (Bt wx.heap.size w4.heap.size) A9 (y).ks):=YV (hk.widen fun q hq=>⟨Nat.le_trans HA3.out.size hq.1,hq.2⟩);have HROW:=HA4.out.row HPX.out hpb;clear g1 g2 h2 hk HC)|(refine wpList_store_row (o:=⟨none,Op.store _ _ _,_,_,_,_⟩) rfl _ _ _ rfl w.heap.size (t6 (y) A9 c9) rfl rfl _ _ HROW (jh _ _ _) rfl (jC _ _ _) ?_))
      obtain⟨t1,t2,t3,t4⟩:=zO (x:=y) (A:=A9) (c:=c9) (za HGX.out HA4.out.grown) HROW (by rw[← HXZ.out];exact HK9.out) HA4.out.st hBw
      exact bodyPost_ret (results_cell_row rfl _ _ w.heap.size _ _ _ _ rfl t4 Tryz.underlying198 rfl zG) rfl (PRes.okI HR.out t1 rfl ⟨A9,c9,rfl,t2⟩ t3)
     ·rw[hE] at hR HC
      have HR:=YV hR
      clear hR h he hkk hk3 hf1 hf1b ht1 ht1b hE hk1
      go_enter Tryz.func195,Tryz.ntmps195
      go_upto_region 1 with fail
      rw[← hwx]
      clear hwx
      go_upto_region 2 with (go_at_call 64;refine(HN.out _ HA0.out.st).mono ?_;rintro e w1 ⟨rfl,g1⟩;have HA1:Hid (At s B b wx (t::r) o (w1.alloc (.cells #[.int .i64 k,.string ⟨x.toArray⟩,.int .i64 n,.int .i64 z1,.int .i64 z2] 141))):=YV ((HA0.out.below g1).alloc _);have HKt_1:Hid (Bx b wx w1.heap.size 141 #[.int .i64 k,.string ⟨x.toArray⟩,.int .i64 n,.int .i64 z1,.int .i64 z2] (w1.alloc (.cells #[.int .i64 k,.string ⟨x.toArray⟩,.int .i64 n,.int .i64 z1,.int .i64 z2] 141))):=YV ⟨Row.made _ _ _,(HA0.out.below g1).size,hbxx⟩;clear g1 HN)
      generalize w1.alloc (.cells #[.int .i64 k,.string ⟨x.toArray⟩,.int .i64 n,.int .i64 z1,.int .i64 z2] 141)=v1 at HA1 HKt_1 ⊢
      have y0:=HKt_1.out.row.cell 0
      have hpz:=HKt_1.out.row.lt
      simp at y0
      go_wp2_with (first|(go_at_call 102;refine(HM1.out _ HA1.out.st).mono ?_;rintro e w2 ⟨rfl,g1,g2⟩;have HA2:=YV (HA1.out.grow g1 g2);have HKt_2:=YV (HKt_1.out.grow g2);clear g1 g2 HM1)|(go_at_call 102;refine(HM2.out _ HA2.out.st).mono ?_;rintro e w3 ⟨rfl,g1,g2⟩;have HA3:=YV (HA2.out.grow g1 g2);have HKt_3:=YV (HKt_2.out.grow g2);clear g1 g2 HM2;have y3:=HKt_3.out.row.cell 0;have hpz3:=HKt_3.out.row.lt;simp at y3)|(go_at_call 199;refine(HC.out _ HA3.out.st HA3.out.env).mono ?_;intro e w4 h2;obtain⟨rfl,g2⟩:=h2.badE rfl;have HGB:=YV (za HA3.out.grown g2);clear g2 h2 HC))
      exact⟨rfl,PRes.badI HR.out (za HGX.out HGB.out) rfl⟩
end Go.Proofs.YtdabndiaflagpaaGreatDoor
namespace Go.Proofs.YtdabndiaflagpaaGreatDoor
open Go.RowKit
def RT6:Of X:=fun w S x cs=>∃ A c,cs=[.int .i64 x.k,.int .i64 x.o,.int .i64 x.n,.string ⟨x.s.toArray⟩,.slice A x.ks.length c,.int .i64 (x.depth:Int)]∧KS w S A x.ks
theorem yM:jB RT6 6:=⟨fun ⟨A,c,h,hk⟩ hm=>⟨A,c,h,hk.move hm⟩,fun ⟨A,c,h,_⟩=>by rw[h];rfl,fun ⟨A,c,h,_⟩ u hu=>by
 rw[h] at hu
 simp only[List.mem_cons,List.not_mem_nil,or_false] at hu
 rcases hu with rfl | rfl | rfl | rfl | rfl | rfl <;> rfl⟩
def OwnT (B:Nat) (ts:List X) (v:Value) (w:World):Prop:=OwnG RT6 198 6 w B (Sb B v.ownBlock w) v ts
theorem OwnT.grow {B b:Nat} {ts:List X} {v:Value} {w w':World} (h:OwnT B ts v w) (hb:b<B) (g:w.grownBy w' (some b)):OwnT B ts v w':=OwnG.far yM h hb g
theorem JJ:(Tryz.prog.info? 198).map (fun i=>(i.zero,i.size,i.bytes))=some (some (.agg #[.int .i64 0,.int .i64 0,.int .i64 0,.string ⟨#[]⟩,.slice none 0 0,.int .i64 0]),6,72):=by kernel_rfl
theorem OwnT.trs {B:Nat} {ts:List X} {v:Value} {w:World} (h:OwnT B ts v w):∃ A c,v=.slice A ts.length c∧TR w (Bt B w.heap.size) A ts:=by
 have hlt:=h.lt
 obtain⟨A,c,hv,hr⟩:=OwnG.form yM h (S':=Bt B w.heap.size) (fun q hq=>⟨hq.1,hq.2.1⟩) (fun q cs hq _=>hlt q hq)
 exact⟨A,c,hv,Rw.imp hr fun x b off ⟨hb,cs,⟨A2,c2,hc,hk⟩,hat⟩=>by
  subst hc
  exact⟨EC.mk' hb (hat 0 _ rfl) (hat 1 _ rfl) (hat 2 _ rfl) (hat 3 _ rfl) (hat 4 _ rfl) hk,hat 5 _ rfl⟩⟩
theorem OwnT.snoc {B:Nat} {acc:List X} {y:X} {v v':Value} {w w':World} {cs:List Value} {A:Option Addr} {c:Nat} (hx:CG RT6 w (Sb B v.ownBlock w) acc cs) (ho':w'.ownsRow B 198 6 v' (acc.length+1) (cs++[.int .i64 y.k,.int .i64 y.o,.int .i64 y.n,.string ⟨y.s.toArray⟩,.slice A y.ks.length c,.int .i64 (y.depth:Int)]))
  (hgr:w.grownBy w' v.ownBlock) (hat:v'.ownBlock=v.ownBlock∨v'.ownBlock=some w.heap.size) (hk:KS w (Sb B v.ownBlock w) A y.ks):OwnT B (acc++[y]) v' w':=by
 have h1:(acc++[y])[acc.length]? = some y:=by simp
 have h2:(acc++[y]).take acc.length=acc:=by simp
 have h3:(acc++[y]).take (acc.length+1)=acc++[y]:=List.take_of_length_le (by simp)
 have:=OwnG.step (R:=RT6) (e:=198) (xs:=acc++[y]) (j:=acc.length) (c:=[.int .i64 y.k,.int .i64 y.o,.int .i64 y.n,.string ⟨y.s.toArray⟩,.slice A y.ks.length c,.int .i64 (y.depth:Int)]) yM h1 (by rw[h2];exact hx) (by rw[h2];exact ho') hgr hat ⟨A,c,rfl,hk⟩
 rw[h3] at this
 exact this
theorem q9 (y:X) (A:Option Addr) (c:Nat):∀ u∈[Value.int .i64 y.k,.int .i64 y.o,.int .i64 y.n,.string ⟨y.s.toArray⟩,.slice A y.ks.length c,.int .i64 (y.depth:Int)],u.oneCell'=true:=by
 intro u hu
 simp only[List.mem_cons,List.not_mem_nil,or_false] at hu
 rcases hu with rfl | rfl | rfl | rfl | rfl | rfl <;> rfl
def qE (r:Pr (List X)):Pr (List X):=r.bind fun ks L=>(ze [41] L).bind fun _ L=>.ok ks L
structure AppP (w w3:World) (acc:List X) (v:Value) (y:X) (A:Option Addr) (c:Nat) (ds:List Value):Prop where
 row:(w3.alloc (.cells #[.int .i64 y.k,.int .i64 y.o,.int .i64 y.n,.string ⟨y.s.toArray⟩,.slice A y.ks.length c,.int .i64 (y.depth:Int)] 198)).ownsRow w.heap.size 198 6 v acc.length ds
 cells:∀ (i:Nat) u,([.int .i64 y.k,.int .i64 y.o,.int .i64 y.n,.string ⟨y.s.toArray⟩,.slice A y.ks.length c,.int .i64 (y.depth:Int)]:List Value)[i]? = some u→(w3.alloc (.cells #[.int .i64 y.k,.int .i64 y.o,.int .i64 y.n,.string ⟨y.s.toArray⟩,.slice A y.ks.length c,.int .i64 (y.depth:Int)] 198)).cell? ((⟨w3.heap.size,0,none⟩:Addr).add i)=some u
 cg:CG RT6 (w3.alloc (.cells #[.int .i64 y.k,.int .i64 y.o,.int .i64 y.n,.string ⟨y.s.toArray⟩,.slice A y.ks.length c,.int .i64 (y.depth:Int)] 198)) (Sb w.heap.size v.ownBlock (w3.alloc (.cells #[.int .i64 y.k,.int .i64 y.o,.int .i64 y.n,.string ⟨y.s.toArray⟩,.slice A y.ks.length c,.int .i64 (y.depth:Int)] 198))) acc ds
 ks:KS (w3.alloc (.cells #[.int .i64 y.k,.int .i64 y.o,.int .i64 y.n,.string ⟨y.s.toArray⟩,.slice A y.ks.length c,.int .i64 (y.depth:Int)] 198)) (Sb w.heap.size v.ownBlock (w3.alloc (.cells #[.int .i64 y.k,.int .i64 y.o,.int .i64 y.n,.string ⟨y.s.toArray⟩,.slice A y.ks.length c,.int .i64 (y.depth:Int)] 198))) A y.ks
 size:w.heap.size≤(w3.alloc (.cells #[.int .i64 y.k,.int .i64 y.o,.int .i64 y.n,.string ⟨y.s.toArray⟩,.slice A y.ks.length c,.int .i64 (y.depth:Int)] 198)).heap.size
 own:∀ q,v.ownBlock=some q→w.heap.size≤q
theorem qy {s:T} {B b:Nat} {w w2 w3:World} {L:List Tk} {o:Nat} {acc:List X} {v:Value} {y:X} {A:Option Addr} {c:Nat} (ha:At s B b w L o w2) (ho:OwnT w.heap.size acc v w2) (hb:b<w.heap.size) (g2:w2.grownBy w3 (some b)) (hk:KS w3 (Bt w2.heap.size w3.heap.size) A y.ks) :
  ∃ ds,AppP w w3 acc v y A c ds:=by
 have hlt:=jv ho
 have h1:=ha.size
 have h2:=g2.size
 have hal:Tame.Later w3 (w3.alloc (.cells #[.int .i64 y.k,.int .i64 y.o,.int .i64 y.n,.string ⟨y.s.toArray⟩,.slice A y.ks.length c,.int .i64 (y.depth:Int)] 198)):=(Below.refl _ _).alloc (Nat.le_refl _) _
 obtain⟨ds,hrow,hcg⟩:=ho.grow hb g2
 refine⟨ds,hrow.alloc _,fun i u hu=>?_,hcg.move yM fun q hq=>zV hal q hq,?_,by simp;omega,fun q hq=>(hlt q hq).1⟩
 ·rw[jm,Nat.zero_add,(Row.made _ _ _).cell i,← hu];simp
 ·exact hk.move fun q hq=>⟨⟨by have:=hq.1;omega,by have:=hq.2;simp;omega,fun e=>by have:=(hlt q e.symm).2;have:=hq.1;omega⟩,Below.heap_alloc _ _ _ hq.2⟩
theorem At.own {s:T} {B b:Nat} {wx wi wj:World} {L:List Tk} {o:Nat} {r:Option Nat} (h:At s B b wx L o wi) (g:wi.grownBy wj r) (hr:∀ q,r=some q→wx.heap.size≤q) (hB:B≤wx.heap.size:=by assumption):At s B b wx L o wj:=
 ⟨h.st.grown g (fun q hq=>by have:=hr q hq;omega),h.env.grown g (by have:=h.st.base_;have:=h.st.room_;omega) (fun q hq=>by have:=hr q hq;have:=h.st.base_;omega),jb h.grown g hr⟩
theorem J6 (s:T) (B b f o:Nat) (L:List Tk) (w:World) (ih:∀ f',f'≤f→PE s B b f') (hf:16 * L.length+3≤f+1) (hb:isP [40] L=true) (h:StT s B w b L o) (he:zv b w) :
  Calls Tryz.prog 204 #[.pointer (some ⟨b,0,none⟩)] w (PRes s b B w o (fun ts v w'=>TrsV w.heap.size ts v w'∧ts.length≤1000) (zy (f+1) L o)):=by
 obtain⟨R,hR⟩:∃ R,R=zy (f+1) L o:=⟨_,rfl⟩
 rw[← hR]
 have hbB:=h.base_
 have hBw:=h.room_
 obtain⟨wx,hwx⟩:∃ wx,wx=w:=⟨_,rfl⟩
 have hbxx:b<w.heap.size:=by omega
 have HA0:Hid (At s B b w L o w):=YV (At.refl h he)
 clear hwx wx
 obtain⟨i0,hi0,hz0,hz1,hz2⟩:=info_parts JJ
 rw[zy] at hR
 have ht:=zI h.wf_ hb (by decide)
 have HBG:Hid (∀ w1,StT s B w1 b L o→_):=YV fun w1 h1=>ql s B b o L w1 h1 ht.1
 have HCOM:Hid (∀ Li w1,StT s B w1 b Li (o+1)→_):=YV fun Li w1 h1=>pMay s B b (o+1) [44] Li w1 h1 (by decide)
 have HROOM:Hid (∀ m Li w1,m≤1000→StT s B w1 b Li (o+1)→_):=YV fun m Li w1 hm h1=>Jm s B b (o+1) m Li w1 h1 hm
 have HMUST:Hid (∀ Li w1,StT s B w1 b Li (o+1)→_):=YV fun Li w1 h1=>vg s B b (o+1) [41] Li w1 h1 (by decide)
 have HEND:Hid (∀ Li w1,StT s B w1 b Li (o+1)→_):=YV fun Li w1 h1=>pEnd s B b o Li w1 h1
 have HIH:=YV ih
 by_cases ho:400≤o
 ·have hO:(ji o L fun L=>.ok () L:Pr Unit)=.bad 5 (hdF L):=if_pos ho
  rw[hO] at HBG
  replace hR:R=.bad 5 (hdF L):=by rw[hR];exact if_pos ho
  have HR:=YV hR
  clear hR hO ho hb ht h he
  go_enter Tryz.func204,Tryz.ntmps204
  go_wp2_with (go_at_call 177;refine(HBG.out _ HA0.out.st).mono ?_;intro e w1 h2;obtain⟨rfl,g2⟩:=h2.badE rfl;have HGB:=YV (za HA0.out.grown g2);clear g2 h2 HBG)
  exact⟨rfl,PRes.badI HR.out (HGB.out) rfl⟩
 ·have hO:(ji o L fun L=>.ok () L:Pr Unit)=.ok () L.tail:=if_neg ho
  rw[hO] at HBG
  replace hR:R=qE (if isP [41] L.tail=true then zU f [] L.tail (o+1) else (zn f L.tail (o+1)).bind fun x L=>zU f [x] L (o+1)):=by rw[hR];exact if_neg ho
  have HI:Hid (∀ w1,StT s B w1 b L.tail (o+1)→_):=YV fun w1 h1=>pIs s B b (o+1) [41] L.tail w1 h1
  have hl1:L.tail.length+1≤L.length:=ht.2
  have HWT:=YV ht.1
  clear h he hb
  by_cases hcl:isP [41] L.tail=true
  ·rw[if_pos hcl] at hR
   rw[hcl] at HI
   have HRS:=YV hR
   clear hR hcl hO ho ht
   go_enter Tryz.func204,Tryz.ntmps204
   go_wp2_with (first|(go_at_call 177;refine(HBG.out _ HA0.out.st).mono ?_;intro e w1 h2;obtain⟨v,rfl,hv,g1,g2⟩:=h2.okE rfl;obtain rfl:v=.tuple #[]:=hv;have HA1:=YV (HA0.out.grow g1 g2);clear g1 g2 h2 HBG)|(go_at_call 61;refine(HI.out _ HA1.out.st).mono ?_;rintro e w2 ⟨rfl,g1⟩;have HA2:=YV (HA1.out.below g1);clear g1 HI))
   go_loopg [3] f (fun g' v wr=>∃ (acc:List X) (Li:List Tk),R=qE (zU g' acc Li (o+1))∧16 * Li.length+3≤g'∧g'≤f∧At s B b w Li (o+1) wr∧OwnT w.heap.size acc v wr∧acc.length≤1000)
   case atStart=>exact⟨[],L.tail,HRS.out,by omega,Nat.le_refl _,HA2.out,OwnG.nil _ _ _ _ _ _,by simp⟩
   case round=>
    obtain⟨acc,Li,hRi,hfu,hff,hat,hown,hna⟩:=hrel
    obtain⟨fl,rfl⟩:∃ fl,gk=fl+1:=⟨gk - 1,by omega⟩
    obtain⟨Av,cv,rfl,_⟩:=zw hown
    replace HA0:=YV hat
    have HO0:=YV hown
    have HWF:=YV hat.st.wf_
    rw[zU] at hRi
    have HM1:=YV (HCOM.out Li)
    clear hat hown
    by_cases hcm:isP [44] Li=true
    ·have htt:=zI HWF.out hcm (by decide)
     rw[if_pos hcm] at hRi
     rw[hcm,if_pos rfl] at HM1
     have HRO:=YV (HROOM.out acc.length Li.tail)
     by_cases hfull:1000≤acc.length
     ·rw[if_pos hfull] at hRi HRO
      have HR:Hid (R=.bad 4 (hdF Li.tail)):=YV hRi
      clear hRi hcm hfull htt
      go_wp2_with (first|(go_at_call 102;refine(HM1.out _ HA0.out.st).mono ?_;rintro e w1 ⟨rfl,g1,g2⟩;have HA1:=YV (HA0.out.grow g1 g2);have HO1:=YV (HO0.out.grow hbxx g2);clear g1 g2 HM1)|(go_at_call 62;refine(HRO.out _ hna HA1.out.st).mono ?_;intro e w2 h2;obtain⟨rfl,g2⟩:=h2.badE rfl;have HGB:=YV (za HA1.out.grown g2);clear g2 h2 HRO))
      exact⟨rfl,PRes.badI HR.out (HGB.out) rfl⟩
     ·rw[if_neg hfull] at hRi HRO
      have HX:Hid (∀ w1,StT s B w1 b Li.tail (o+1)→zv b w1→_):=YV fun w1 h1 h2=>(HIH.out fl (by omega)).expr (o+1) Li.tail w1 (by omega) h1 h2
      rcases (zn fl Li.tail (o+1)).cases with ⟨y,L2,hE⟩ | ⟨c,a,hE⟩
      ·have hsh:=(jD fl).expr _ _ htt.1 _ _ hE
       have hz5:=hsh.2
       have hz6:=htt.2
       rw[hE] at hRi HX
       have HRI:Hid (R=qE (zU fl (acc++[y]) L2 (o+1))):=YV hRi
       clear hRi hcm htt hE hsh
       go_wp2_with (first|(go_at_call 102;refine(HM1.out _ HA0.out.st).mono ?_;rintro e w1 ⟨rfl,g1,g2⟩;have HA1:=YV (HA0.out.grow g1 g2);have HO1:=YV (HO0.out.grow hbxx g2);clear g1 g2 HM1)|(go_at_call 62;refine(HRO.out _ hna HA1.out.st).mono ?_;intro e w2 h2;obtain⟨v,rfl,hv,g1,g2⟩:=h2.okE rfl;obtain rfl:v=.tuple #[]:=hv;have HA2:=YV (HA1.out.grow g1 g2);have HO2:=YV (HO1.out.grow hbxx g2);clear g1 g2 h2 HRO)|(go_at_call 135;refine(HX.out _ HA2.out.st HA2.out.env).mono ?_;intro e w3 h2;obtain⟨v9,rfl,⟨Ay,cy,rfl,hk⟩,g1,g2⟩:=h2.okE rfl;obtain⟨ds,hap⟩:=qy (c:=cy) HA2.out HO2.out hbxx g2 hk;have HAP:=YV hap;have HA3:=YV (HA2.out.grow g1 g2);clear g1 g2 h2 hk hap HX)|(at_builtin;go_must (refine wpList_append_own_at _ rfl (.tmp 20) (.tmp 23) 246 rfl w.heap.size 198 i0 _ 6 72 Tryz.underlying246 hi0 hz0 hz1 hz2 rfl (by omega) (.slice Av acc.length cv) acc.length ds rfl HAP.out.row ⟨w3.heap.size,0,none⟩ 1 1 [.int .i64 y.k,.int .i64 y.o,.int .i64 y.n,.string ⟨y.s.toArray⟩,.slice Ay y.ks.length cy,.int .i64 (y.depth:Int)] rfl rfl HAP.out.cells (q9 _ _ _) (by unfold maxLen;omega) (by omega) HAP.out.size ?_);intro v' w4 ho' hgr' _ hat;have HON:=YV (OwnT.snoc HAP.out.cg ho' hgr' hat HAP.out.ks);have HAN:=YV (HA3.out.own (zM hgr') HAP.out.own);clear ho' hgr' hat))
       go_roundg fl
       case rel=>exact⟨acc++[y],L2,HRI.out,by omega,by omega,HAN.out,HON.out,by simp;omega⟩
       case measure=>omega
      ·rw[hE] at hRi HX
       have HR:Hid (R=.bad c a):=YV hRi
       clear hRi hcm htt hE
       go_wp2_with (first|(go_at_call 102;refine(HM1.out _ HA0.out.st).mono ?_;rintro e w1 ⟨rfl,g1,g2⟩;have HA1:=YV (HA0.out.grow g1 g2);have HO1:=YV (HO0.out.grow hbxx g2);clear g1 g2 HM1)|(go_at_call 62;refine(HRO.out _ hna HA1.out.st).mono ?_;intro e w2 h2;obtain⟨v,rfl,hv,g1,g2⟩:=h2.okE rfl;obtain rfl:v=.tuple #[]:=hv;have HA2:=YV (HA1.out.grow g1 g2);have HO2:=YV (HO1.out.grow hbxx g2);clear g1 g2 h2 HRO)|(go_at_call 135;refine(HX.out _ HA2.out.st HA2.out.env).mono ?_;intro e w3 h2;obtain⟨rfl,g2⟩:=h2.badE rfl;have HGB:=YV (za HA2.out.grown g2);clear g2 h2 HX))
       exact⟨rfl,PRes.badI HR.out (HGB.out) rfl⟩
    ·have hcm2:isP [44] Li=false:=by simpa using hcm
     rw[if_neg hcm] at hRi
     rw[hcm2,if_neg (by decide)] at HM1
     have HMU:=YV (HMUST.out Li)
     rcases (ze [41] Li).cases with ⟨u,L2,hE⟩ | ⟨c,a,hE⟩
     ·replace hRi:R=(ze [41] Li).bind fun _ L=>.ok acc L:=hRi
      rw[hE] at hRi HMU
      have HR:Hid (R=.ok acc L2):=YV hRi
      have HEN:=YV (HEND.out L2)
      clear hRi hcm hcm2 hE
      go_wp2_with (first|(go_at_call 102;refine(HM1.out _ HA0.out.st).mono ?_;rintro e w1 ⟨rfl,g1,g2⟩;have HA1:=YV (HA0.out.grow g1 g2);have HO1:=YV (HO0.out.grow hbxx g2);clear g1 g2 HM1)|(go_at_call 99;refine(HMU.out _ HA1.out.st).mono ?_;intro e w2 h2;obtain⟨v,rfl,hv,g1,g2⟩:=h2.okE rfl;obtain rfl:v=.tuple #[]:=hv;have HA2:=YV (HA1.out.grow g1 g2);have HO2:=YV (HO1.out.grow hbxx g2);clear g1 g2 h2 HMU)|(go_at_call 178;refine(HEN.out _ HA2.out.st).mono ?_;rintro e w3 ⟨rfl,g1,g2⟩;have HA3:=YV (HA2.out.grow g1 g2);have HO3:=YV (HO2.out.grow hbxx g2);clear g1 g2 HEN))
      go_ret
      obtain⟨A9,c9,hv9,ht9⟩:=HO3.out.trs
      exact PRes.okI HR.out HA3.out.grown rfl ⟨⟨A9,c9,hv9,ht9⟩,hna⟩ HA3.out.st
     ·replace hRi:R=(ze [41] Li).bind fun _ L=>.ok acc L:=hRi
      rw[hE] at hRi HMU
      have HR:Hid (R=.bad c a):=YV hRi
      clear hRi hcm hcm2 hE
      go_wp2_with (first|(go_at_call 102;refine(HM1.out _ HA0.out.st).mono ?_;rintro e w1 ⟨rfl,g1,g2⟩;have HA1:=YV (HA0.out.grow g1 g2);have HO1:=YV (HO0.out.grow hbxx g2);clear g1 g2 HM1)|(go_at_call 99;refine(HMU.out _ HA1.out.st).mono ?_;intro e w2 h2;obtain⟨rfl,g2⟩:=h2.badE rfl;have HGB:=YV (za HA1.out.grown g2);clear g2 h2 HMU))
      exact⟨rfl,PRes.badI HR.out (HGB.out) rfl⟩
  ·rw[if_neg hcl] at hR
   have hcl2:isP [41] L.tail=false:=by simpa using hcl
   rw[hcl2] at HI
   have HX:Hid (∀ w1,StT s B w1 b L.tail (o+1)→zv b w1→_):=YV fun w1 h1 h2=>(ih f (Nat.le_refl _)).expr (o+1) L.tail w1 (by omega) h1 h2
   rcases (zn f L.tail (o+1)).cases with ⟨x,L1,hE⟩ | ⟨c,a,hE⟩
   ·have hsh:=(jD f).expr _ _ ht.1 _ _ hE
    have hz5:=hsh.2
    rw[hE] at hR HX
    have HRS:Hid (R=qE (zU f [x] L1 (o+1))):=YV hR
    clear hR hcl hcl2 hO ho ht hE hsh
    have HO0:Hid (∀ wz,OwnT w.heap.size [] (.slice none 0 0) wz):=YV fun wz=>OwnG.nil _ _ _ _ _ _
    go_enter Tryz.func204,Tryz.ntmps204
    go_wp2_with (first|(go_at_call 177;refine(HBG.out _ HA0.out.st).mono ?_;intro e w1 h2;obtain⟨v,rfl,hv,g1,g2⟩:=h2.okE rfl;obtain rfl:v=.tuple #[]:=hv;have HA1:=YV (HA0.out.grow g1 g2);clear g1 g2 h2 HBG)|(go_at_call 61;refine(HI.out _ HA1.out.st).mono ?_;rintro e w2 ⟨rfl,g1⟩;have HA2:=YV (HA1.out.below g1);clear g1 HI;have HO2:=YV (HO0.out w2))|(go_at_call 135;refine(HX.out _ HA2.out.st HA2.out.env).mono ?_;intro e w3 h2;obtain⟨v9,rfl,⟨Ax,cx,rfl,hk⟩,g1,g2⟩:=h2.okE rfl;obtain⟨ds,hap⟩:=qy (c:=cx) HA2.out HO2.out hbxx g2 hk;have HAP:=YV hap;have HA3:=YV (HA2.out.grow g1 g2);clear g1 g2 h2 hk hap HX)|(at_builtin;go_must (refine wpList_append_own_at _ rfl (.tmp 9) (.tmp 12) 246 rfl w.heap.size 198 i0 _ 6 72 Tryz.underlying246 hi0 hz0 hz1 hz2 rfl (by omega) (.slice none 0 0) 0 ds rfl HAP.out.row ⟨w3.heap.size,0,none⟩ 1 1 [.int .i64 x.k,.int .i64 x.o,.int .i64 x.n,.string ⟨x.s.toArray⟩,.slice Ax x.ks.length cx,.int .i64 (x.depth:Int)] rfl rfl HAP.out.cells (q9 _ _ _) (by unfold maxLen;omega) (by omega) HAP.out.size ?_);intro v' w4 ho' hgr' _ hat;have HON:=YV (OwnT.snoc HAP.out.cg ho' hgr' hat HAP.out.ks);have HAN:=YV (HA3.out.own (zM hgr') HAP.out.own);clear ho' hgr' hat))
    go_loopg [3] f (fun g' v wr=>∃ (acc:List X) (Li:List Tk),R=qE (zU g' acc Li (o+1))∧16 * Li.length+3≤g'∧g'≤f∧At s B b w Li (o+1) wr∧OwnT w.heap.size acc v wr∧acc.length≤1000)
    case atStart=>exact⟨[x],L1,HRS.out,by omega,Nat.le_refl _,HAN.out,HON.out,by simp⟩
    case round=>
     obtain⟨acc,Li,hRi,hfu,hff,hat,hown,hna⟩:=hrel
     obtain⟨fl,rfl⟩:∃ fl,gk=fl+1:=⟨gk - 1,by omega⟩
     obtain⟨Av,cv,rfl,_⟩:=zw hown
     replace HA0:=YV hat
     have HO0:=YV hown
     have HWF:=YV hat.st.wf_
     rw[zU] at hRi
     have HM1:=YV (HCOM.out Li)
     clear hat hown
     by_cases hcm:isP [44] Li=true
     ·have htt:=zI HWF.out hcm (by decide)
      rw[if_pos hcm] at hRi
      rw[hcm,if_pos rfl] at HM1
      have HRO:=YV (HROOM.out acc.length Li.tail)
      by_cases hfull:1000≤acc.length
      ·rw[if_pos hfull] at hRi HRO
       have HR:Hid (R=.bad 4 (hdF Li.tail)):=YV hRi
       clear hRi hcm hfull htt
       go_wp2_with (first|(go_at_call 102;refine(HM1.out _ HA0.out.st).mono ?_;rintro e w1 ⟨rfl,g1,g2⟩;have HA1:=YV (HA0.out.grow g1 g2);have HO1:=YV (HO0.out.grow hbxx g2);clear g1 g2 HM1)|(go_at_call 62;refine(HRO.out _ hna HA1.out.st).mono ?_;intro e w2 h2;obtain⟨rfl,g2⟩:=h2.badE rfl;have HGB:=YV (za HA1.out.grown g2);clear g2 h2 HRO))
       exact⟨rfl,PRes.badI HR.out (HGB.out) rfl⟩
      ·rw[if_neg hfull] at hRi HRO
       have HX:Hid (∀ w1,StT s B w1 b Li.tail (o+1)→zv b w1→_):=YV fun w1 h1 h2=>(HIH.out fl (by omega)).expr (o+1) Li.tail w1 (by omega) h1 h2
       rcases (zn fl Li.tail (o+1)).cases with ⟨y,L2,hE⟩ | ⟨c,a,hE⟩
       ·have hsh:=(jD fl).expr _ _ htt.1 _ _ hE
        have hz5:=hsh.2
        have hz6:=htt.2
        rw[hE] at hRi HX
        have HRI:Hid (R=qE (zU fl (acc++[y]) L2 (o+1))):=YV hRi
        clear hRi hcm htt hE hsh
        go_wp2_with (first|(go_at_call 102;refine(HM1.out _ HA0.out.st).mono ?_;rintro e w1 ⟨rfl,g1,g2⟩;have HA1:=YV (HA0.out.grow g1 g2);have HO1:=YV (HO0.out.grow hbxx g2);clear g1 g2 HM1)|(go_at_call 62;refine(HRO.out _ hna HA1.out.st).mono ?_;intro e w2 h2;obtain⟨v,rfl,hv,g1,g2⟩:=h2.okE rfl;obtain rfl:v=.tuple #[]:=hv;have HA2:=YV (HA1.out.grow g1 g2);have HO2:=YV (HO1.out.grow hbxx g2);clear g1 g2 h2 HRO)|(go_at_call 135;refine(HX.out _ HA2.out.st HA2.out.env).mono ?_;intro e w3 h2;obtain⟨v9,rfl,⟨Ay,cy,rfl,hk⟩,g1,g2⟩:=h2.okE rfl;obtain⟨ds,hap⟩:=qy (c:=cy) HA2.out HO2.out hbxx g2 hk;have HAP:=YV hap;have HA3:=YV (HA2.out.grow g1 g2);clear g1 g2 h2 hk hap HX)|(at_builtin;go_must (refine wpList_append_own_at _ rfl (.tmp 20) (.tmp 23) 246 rfl w.heap.size 198 i0 _ 6 72 Tryz.underlying246 hi0 hz0 hz1 hz2 rfl (by omega) (.slice Av acc.length cv) acc.length ds rfl HAP.out.row ⟨w3.heap.size,0,none⟩ 1 1 [.int .i64 y.k,.int .i64 y.o,.int .i64 y.n,.string ⟨y.s.toArray⟩,.slice Ay y.ks.length cy,.int .i64 (y.depth:Int)] rfl rfl HAP.out.cells (q9 _ _ _) (by unfold maxLen;omega) (by omega) HAP.out.size ?_);intro v' w4 ho' hgr' _ hat;have HON:=YV (OwnT.snoc HAP.out.cg ho' hgr' hat HAP.out.ks);have HAN:=YV (HA3.out.own (zM hgr') HAP.out.own);clear ho' hgr' hat))
        go_roundg fl
        case rel=>exact⟨acc++[y],L2,HRI.out,by omega,by omega,HAN.out,HON.out,by simp;omega⟩
        case measure=>omega
       ·rw[hE] at hRi HX
        have HR:Hid (R=.bad c a):=YV hRi
        clear hRi hcm htt hE
        go_wp2_with (first|(go_at_call 102;refine(HM1.out _ HA0.out.st).mono ?_;rintro e w1 ⟨rfl,g1,g2⟩;have HA1:=YV (HA0.out.grow g1 g2);have HO1:=YV (HO0.out.grow hbxx g2);clear g1 g2 HM1)|(go_at_call 62;refine(HRO.out _ hna HA1.out.st).mono ?_;intro e w2 h2;obtain⟨v,rfl,hv,g1,g2⟩:=h2.okE rfl;obtain rfl:v=.tuple #[]:=hv;have HA2:=YV (HA1.out.grow g1 g2);have HO2:=YV (HO1.out.grow hbxx g2);clear g1 g2 h2 HRO)|(go_at_call 135;refine(HX.out _ HA2.out.st HA2.out.env).mono ?_;intro e w3 h2;obtain⟨rfl,g2⟩:=h2.badE rfl;have HGB:=YV (za HA2.out.grown g2);clear g2 h2 HX))
        exact⟨rfl,PRes.badI HR.out (HGB.out) rfl⟩
     ·have hcm2:isP [44] Li=false:=by simpa using hcm
      rw[if_neg hcm] at hRi
      rw[hcm2,if_neg (by decide)] at HM1
      have HMU:=YV (HMUST.out Li)
      rcases (ze [41] Li).cases with ⟨u,L2,hE⟩ | ⟨c,a,hE⟩
      ·replace hRi:R=(ze [41] Li).bind fun _ L=>.ok acc L:=hRi
       rw[hE] at hRi HMU
       have HR:Hid (R=.ok acc L2):=YV hRi
       have HEN:=YV (HEND.out L2)
       clear hRi hcm hcm2 hE
       go_wp2_with (first|(go_at_call 102;refine(HM1.out _ HA0.out.st).mono ?_;rintro e w1 ⟨rfl,g1,g2⟩;have HA1:=YV (HA0.out.grow g1 g2);have HO1:=YV (HO0.out.grow hbxx g2);clear g1 g2 HM1)|(go_at_call 99;refine(HMU.out _ HA1.out.st).mono ?_;intro e w2 h2;obtain⟨v,rfl,hv,g1,g2⟩:=h2.okE rfl;obtain rfl:v=.tuple #[]:=hv;have HA2:=YV (HA1.out.grow g1 g2);have HO2:=YV (HO1.out.grow hbxx g2);clear g1 g2 h2 HMU)|(go_at_call 178;refine(HEN.out _ HA2.out.st).mono ?_;rintro e w3 ⟨rfl,g1,g2⟩;have HA3:=YV (HA2.out.grow g1 g2);have HO3:=YV (HO2.out.grow hbxx g2);clear g1 g2 HEN))
       go_ret
       obtain⟨A9,c9,hv9,ht9⟩:=HO3.out.trs
       exact PRes.okI HR.out HA3.out.grown rfl ⟨⟨A9,c9,hv9,ht9⟩,hna⟩ HA3.out.st
      ·replace hRi:R=(ze [41] Li).bind fun _ L=>.ok acc L:=hRi
       rw[hE] at hRi HMU
       have HR:Hid (R=.bad c a):=YV hRi
       clear hRi hcm hcm2 hE
       go_wp2_with (first|(go_at_call 102;refine(HM1.out _ HA0.out.st).mono ?_;rintro e w1 ⟨rfl,g1,g2⟩;have HA1:=YV (HA0.out.grow g1 g2);have HO1:=YV (HO0.out.grow hbxx g2);clear g1 g2 HM1)|(go_at_call 99;refine(HMU.out _ HA1.out.st).mono ?_;intro e w2 h2;obtain⟨rfl,g2⟩:=h2.badE rfl;have HGB:=YV (za HA1.out.grown g2);clear g2 h2 HMU))
       exact⟨rfl,PRes.badI HR.out (HGB.out) rfl⟩
   ·rw[hE] at hR HX
    have HR:Hid (R=.bad c a):=YV hR
    clear hR hcl hcl2 hO ho ht hE
    go_enter Tryz.func204,Tryz.ntmps204
    go_wp2_with (first|(go_at_call 177;refine(HBG.out _ HA0.out.st).mono ?_;intro e w1 h2;obtain⟨v,rfl,hv,g1,g2⟩:=h2.okE rfl;obtain rfl:v=.tuple #[]:=hv;have HA1:=YV (HA0.out.grow g1 g2);clear g1 g2 h2 HBG)|(go_at_call 61;refine(HI.out _ HA1.out.st).mono ?_;rintro e w2 ⟨rfl,g1⟩;have HA2:=YV (HA1.out.below g1);clear g1 HI)|(go_at_call 135;refine(HX.out _ HA2.out.st HA2.out.env).mono ?_;intro e w3 h2;obtain⟨rfl,g2⟩:=h2.badE rfl;have HGB:=YV (za HA2.out.grown g2);clear g2 h2 HX))
    exact⟨rfl,PRes.badI HR.out (HGB.out) rfl⟩
end Go.Proofs.YtdabndiaflagpaaGreatDoor
