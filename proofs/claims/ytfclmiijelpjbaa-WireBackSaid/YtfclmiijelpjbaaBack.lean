/- DERIVED. The walk of WireBack. -/
import Derived.Test.YtfclmiijelpjbaaBack0
namespace Go.Proofs.Ytfclmiijelpjbaa
open Go.RowKit Crc Nums Rd
attribute [local go_sem] Tame.Op Tame.upon

set_option maxRecDepth 100000 in
set_option maxHeartbeats 8000000 in
theorem back_main (A C : Option Addr) (c d : Nat) (vs : List Nat) (ls : List ByteArray) (w : World) (hA : Lies w w.heap.size A (numsV vs)) (hC : Lies w w.heap.size C (strsV ls))
    (hv : ∀ x ∈ vs, x < 18446744073709551616) (hs : ∀ s ∈ ls, s.size ≤ 9223372036854775807) (h1 : vs.length ≤ 20) (h2 : ls.length ≤ 20) :
    Calls Try.prog 5 #[.slice A vs.length c, .slice C ls.length d] w fun e w' => e = .returned (.bool true) ∧ Below w.heap.size w w' := by
  have HA := Lib.hid hA
  have HC := Lib.hid hC
  have HV := Lib.hid hv
  have HS := Lib.hid hs
  clear hA hC hv hs
  obtain ⟨H0, hH0⟩ : ∃ H0, H0 = w.heap.size := ⟨_, rfl⟩
  rw [← hH0] at HA HC ⊢
  have HH0 := Lib.hid hH0
  clear hH0
  go_enter Try.func5, Try.ntmps5
  go_wp2_with fail
  go_loopw [5, 6] (fun b k wr => ∃ i, i ≤ vs.length ∧ k = .int .i64 (i : Nat) ∧ Owns wr H0 5 b (bytesV (encN (vs.take i))) ∧ Below H0 w wr) (fun _ k _ => vs.length - (intOf k).toNat)
  case atStart => exact ⟨0, by omega, rfl, by simpa [encN, bytesV] using Owns.nil w H0 5, Below.refl _ _⟩
  case round =>
    obtain ⟨i, hi, rfl, hO, hBe⟩ := hrel
    have HB := Lib.hid hBe
    have hsz : H0 ≤ wr.heap.size := by have := hBe.size; have := HH0.out; omega
    clear hBe
    by_cases hlt : i < vs.length
    · have hlen : (encN (vs.take i)).length ≤ 400 := by have := encN_length (vs.take i); rw [List.length_take] at this; omega
      obtain ⟨x, hx⟩ : ∃ x, x = vs[i] := ⟨_, rfl⟩
      have hx64 : x < 18446744073709551616 := HV.out x (by rw [hx]; exact List.getElem_mem hlt)
      have hg : (numsV vs)[i]? = some (.int .u64 (x : Nat)) := by rw [hx]; exact numsV_get vs i hlt
      have HE : Hid (encN (vs.take (i + 1)) = encN (vs.take i) ++ enc1 x) := by rw [hx]; exact encN_take vs i hlt
      obtain ⟨g, off, rfl, hgl, hcell⟩ := HA.out.at_ hg
      clear hg hx
      have HCELL : Hid (∀ W, Above H0 wr.drew W → W.cell? ⟨g, off + i, none⟩ = some (.int .u64 (x : Nat))) := fun W hW => by
        have hb : Below H0 w W := HB.out.drew.trans (hW hsz)
        rw [hb.cell (by exact hgl)]
        exact hcell
      have HSZ : Hid (∀ W, Above H0 wr.drew W → H0 ≤ W.heap.size) := fun W hW => Nat.le_trans hsz (hW hsz).size
      have HOWN := Lib.hid (fun W (hW : Tame.Later wr.drew W) => (hO.below_all (Below.refl _ _).drew).below_all hW)
      have HEND : Hid (∀ W, Above H0 wr.drew W → Below H0 w W) := fun W hW => HB.out.drew.trans (hW hsz)
      obtain ⟨y, hy, hyl⟩ : ∃ y, y = x % 65536 ∧ y < 65536 := ⟨_, rfl, by omega⟩
      obtain ⟨z, hz, hzl⟩ : ∃ z, z = x % 4294967296 ∧ z < 4294967296 := ⟨_, rfl, by omega⟩
      have e1 : IntKind.u16.wrap (x : Int) = (y : Int) := by rw [IntKind.wrap_u16]; omega
      have e2 : IntKind.u32.wrap (x : Int) = (z : Int) := by rw [IntKind.wrap_u32']; omega
      have e3 : ((x : Int)).tmod 65536 = (y : Int) := by rw [Int.tmod_eq_emod_of_nonneg (by omega)]; omega
      have e4 : ((x : Int)).tmod 4294967296 = (z : Int) := by rw [Int.tmod_eq_emod_of_nonneg (by omega)]; omega
      obtain ⟨E1, hE1⟩ : ∃ E1, E1 = encN (vs.take i) ++ low 2 y := ⟨_, rfl⟩
      obtain ⟨E2, hE2⟩ : ∃ E2, E2 = E1 ++ low 4 z := ⟨_, rfl⟩
      obtain ⟨E3, hE3⟩ : ∃ E3, E3 = E2 ++ var x := ⟨_, rfl⟩
      have l1 : E1.length ≤ 402 := by rw [hE1]; simp [low_length]; omega
      have l2 : E2.length ≤ 406 := by rw [hE2]; simp [low_length]; omega
      have P16 : Hid (∀ W v, Owns W H0 5 v (bytesV (encN (vs.take i))) → H0 ≤ W.heap.size → Calls Try.prog 9 #[v, .int .u16 y] W fun e w' => ∃ v', e = .returned v' ∧ Owns w' H0 5 v' (bytesV E1) ∧ Below H0 W w') := fun W v ho hB => by
        rw [hE1, bytesV_append]; exact Put16_any H0 v _ y W ho.src hB hyl (by rw [bytesV_length]; omega)
      have P32 : Hid (∀ W v, Owns W H0 5 v (bytesV E1) → H0 ≤ W.heap.size → Calls Try.prog 11 #[v, .int .u32 z] W fun e w' => ∃ v', e = .returned v' ∧ Owns w' H0 5 v' (bytesV E2) ∧ Below H0 W w') := fun W v ho hB => by
        rw [hE2, bytesV_append]; exact Put32_any H0 v _ z W ho.src hB hzl (by rw [bytesV_length]; omega)
      have PV : Hid (∀ W v, Owns W H0 5 v (bytesV E2) → H0 ≤ W.heap.size → Calls Try.prog 12 #[v, .int .u64 x] W fun e w' => ∃ v', e = .returned v' ∧ Owns w' H0 5 v' (bytesV E3) ∧ Below H0 W w') := fun W v ho hB => by
        rw [hE3, bytesV_append]; exact PutVar_any H0 v _ x W ho.src hB hx64 (by rw [bytesV_length]; omega)
      have HE3 : Hid (encN (vs.take (i + 1)) = E3) := Lib.hid (by rw [HE.out, hE3, hE2, hE1, hy, hz, enc1]; simp only [List.append_assoc])
      clear hO hE1 hE2 hE3 hcell hy hz HE hlen l1 l2
      go_wp2_with fail
      refine Tame.wp_region_tamw (L := Tame.Later) (M := Above H0) [6, 12, 17] (by kernel_rfl) (by kernel_rfl) Tame.Later.refl Tame.Later.trans (Above.of H0) (Above.trans H0) ?_
      repeat
        ((first
          | (refine Tame.walk2_known (o := ⟨some 30, _, _, _, _, _⟩) (Above.of H0) (fun _ => rfl) ?_; apply Exists.intro; refine ⟨fun vals w2 hL hM hd => ?_, ?_⟩; (focus (have hc := HCELL.out w2 hM; clear hd; go_simp; exact Tame.Is.mk (Tame.Later.refl _))))
          | (refine Tame.walk2_known (o := ⟨some 36, _, _, _, _, _⟩) (Above.of H0) (fun _ => rfl) ?_; apply Exists.intro; refine ⟨fun vals w2 hL hM hd => ?_, ?_⟩; (focus (have hc := HCELL.out w2 hM; clear hd; go_simp; exact Tame.Is.mk (Tame.Later.refl _))))
          | (refine Tame.walk2_known (o := ⟨some 42, _, _, _, _, _⟩) (Above.of H0) (fun _ => rfl) ?_; apply Exists.intro; refine ⟨fun vals w2 hL hM hd => ?_, ?_⟩; (focus (have hc := HCELL.out w2 hM; clear hd; go_simp; exact Tame.Is.mk (Tame.Later.refl _))))
          | (refine Tame.walk2_write (o := ⟨some 32, _, _, _, _, _⟩) (fun v w => Owns w H0 5 v (bytesV E1)) (some 12) (fun _ => rfl) (by kernel_rfl) (by kernel_rfl) (fun v w w' hl h => Owns.below_all h hl) (fun vals w2 hL hM hd => ?_) ?_; (focus (have hb := HOWN.out w2 (hL (by kernel_rfl)); clear hd; go_simp; exact (P16.out w2 _ hb (HSZ.out w2 hM)).mono fun e w' ⟨v', he, ho, hbe⟩ => ⟨v', he, fun _ => hbe, ho⟩)))
          | (refine Tame.walk2_write (o := ⟨some 38, _, _, _, _, _⟩) (fun v w => Owns w H0 5 v (bytesV E2)) (some 17) (fun _ => rfl) (by kernel_rfl) (by kernel_rfl) (fun v w w' hl h => Owns.below_all h hl) (fun vals w2 hL hM hd => ?_) ?_; (focus (have ho : Owns w2 H0 5 (vals 6) (bytesV E1) := hd 6 _ rfl (by kernel_rfl) (by kernel_rfl); clear hd; go_simp; exact (P32.out w2 _ ho (HSZ.out w2 hM)).mono fun e w' ⟨v', he, ho, hbe⟩ => ⟨v', he, fun _ => hbe, ho⟩)))
          | (refine Tame.walk2_write (o := ⟨some 43, _, _, _, _, _⟩) (fun v w => Owns w H0 5 v (bytesV E3)) (none) (fun _ => rfl) (by kernel_rfl) (by kernel_rfl) (fun v w w' hl h => Owns.below_all h hl) (fun vals w2 hL hM hd => ?_) ?_; (focus (have ho : Owns w2 H0 5 (vals 12) (bytesV E2) := hd 12 _ rfl (by kernel_rfl) (by kernel_rfl); clear hd; go_simp; exact (PV.out w2 _ ho (HSZ.out w2 hM)).mono fun e w' ⟨v', he, ho, hbe⟩ => ⟨v', he, fun _ => hbe, ho⟩)))
          | (refine Tame.walk2_some (o := ⟨some 5, _, _, _, _, _⟩) (Above.of H0) (fun v w => Owns w H0 5 v (bytesV E3)) (none) (fun _ => rfl) (by kernel_rfl) (fun v w w' hl h => Owns.below_all h hl) (fun vals w2 hL hM hd => ?_) ?_; (focus (have ho : Owns w2 H0 5 (vals 17) (bytesV E3) := hd 17 _ rfl (by kernel_rfl) (by kernel_rfl); clear hd; go_simp; exact Tame.Has.mk (Tame.Later.refl _) ho)))
          | (refine Tame.walk2_known (Above.of H0) (fun _ => rfl) ?_; apply Exists.intro; refine ⟨fun vals w2 hL hM hd => ?_, ?_⟩; (focus (go_simp; first | exact Tame.Is.mk (Tame.Later.refl _) | (rw [if_neg]; (focus exact Tame.Is.mk (Tame.Later.refl _)); omega)))))
         simp only [Act.put, List.setIfInBounds_toArray, List.set_cons_zero, List.set_cons_succ, List.nil_append, List.cons_append, List.length_cons, List.length_nil, Nat.zero_add, Nat.reduceAdd])
      refine Tame.walk2_end fun vals w2 _ hM hts => ?_
      have ho : Owns w2 H0 5 (vals 18) (bytesV E3) := hts 18 _ rfl rfl
      have HO2 := Lib.hid ho
      have HB2 := Lib.hid (HEND.out w2 hM)
      clear hts ho hM
      go_wp2_with fail
      exact ⟨⟨i + 1, by omega, by go_num, by rw [HE3.out]; exact HO2.out, HB2.out⟩, by simp [intOf]; omega⟩
    · obtain rfl : i = vs.length := by omega
      have HO := Lib.hid (show Owns wr H0 5 u5 (bytesV (encN vs)) by rw [← List.take_length (l := vs)]; exact hO)
      have hnl : (encN vs).length ≤ 400 := by have := encN_length vs; omega
      clear hO
      go_wp2_with fail
      go_loopw [5, 7] (fun b k wr => ∃ i, i ≤ ls.length ∧ k = .int .i64 (i : Nat) ∧ (∀ s ∈ ls.take i, s.size ≤ 300) ∧ Owns wr H0 5 b (bytesV (encN vs ++ encT (ls.take i))) ∧ Below H0 w wr) (fun _ k _ => ls.length - (intOf k).toNat)
      case atStart => exact ⟨0, by omega, rfl, by simp, by simpa [encT] using HO.out, HB.out⟩
      case round =>
        obtain ⟨i, hi, rfl, h3, hO, hBe⟩ := hrel
        clear HO HB hsz
        have HB := Lib.hid hBe
        have hsz : H0 ≤ wr.heap.size := by have := hBe.size; have := HH0.out; omega
        have H3 := Lib.hid h3
        have hlen : (encN vs ++ encT (ls.take i)).length ≤ 7000 := by have := encT_length _ h3; rw [List.length_take] at this; rw [List.length_append]; omega
        clear hBe h3
        by_cases hlt : i < ls.length
        · obtain ⟨x, hx⟩ : ∃ x, x = ls[i] := ⟨_, rfl⟩
          have hxs : x.size ≤ 9223372036854775807 := HS.out x (by rw [hx]; exact List.getElem_mem hlt)
          have hg : (strsV ls)[i]? = some (.string x) := by rw [hx]; exact strsV_get ls i hlt
          have HE : Hid (encT (ls.take (i + 1)) = encT (ls.take i) ++ text x.data.toList) := Lib.hid (by rw [hx]; exact encT_take ls i hlt)
          have HT : Hid (ls.take (i + 1) = ls.take i ++ [x]) := Lib.hid (by rw [hx]; exact List.take_succ_eq_append_getElem hlt)
          obtain ⟨g, off, rfl, hgl, hcell⟩ := HC.out.at_ hg
          have hc : wr.cell? ⟨g, off + i, none⟩ = some (.string x) := by rw [HB.out.cell (by exact hgl)]; exact hcell
          clear hg hx hcell
          have HO := Lib.hid hO
          clear hO
          by_cases hbig : 300 < x.size
          · go_wp2_with fail
            go_ret
            exact ⟨rfl, HB.out⟩
          · have HP := Lib.hid (PutText_any H0 u5 _ x wr HO.out.src hsz (by omega) (by rw [bytesV_length]; omega))
            go_wp2_with fail
            refine HP.out.mono ?_
            rintro e w2 ⟨v', rfl, hO2, hB2⟩
            have HO2 := Lib.hid hO2
            have HB2 := Lib.hid (HB.out.trans hB2)
            clear hO2 hB2
            go_wp2_with fail
            refine ⟨⟨i + 1, by omega, by go_num, ?_, ?_, HB2.out⟩, by simp [intOf]; omega⟩
            · rw [HT.out]
              intro s hs
              rcases List.mem_append.1 hs with h | h
              · exact H3.out s h
              · have := List.mem_singleton.1 h
                subst this
                omega
            · rw [HE.out, ← List.append_assoc, bytesV_append]
              exact HO2.out
        · obtain rfl : i = ls.length := by omega
          obtain ⟨E, hE⟩ : ∃ E, E = encN vs ++ encT ls := ⟨_, rfl⟩
          rw [List.take_length, ← hE] at hO hlen
          have H300 : Hid (∀ s ∈ ls, s.size ≤ 300) := Lib.hid (by have := H3.out; rw [List.take_length] at this; exact this)
          obtain ⟨A1, c1, hv, hL⟩ := hO.form
          rw [bytesV_length] at hv
          subst hv
          have HE := Lib.hid hE
          have HP := Lib.hid (PutSection_any H0 (.slice none 0 0) [] 9 A1 c1 E wr (Owns.nil wr H0 5).src hL hsz (by omega) (by simp))
          clear hL hO hE H3
          go_wp2_with fail
          refine HP.out.mono ?_
          rintro e w2 ⟨v2, rfl, hO2, hB2⟩
          rw [List.nil_append] at hO2
          obtain ⟨A2, c2, hv2, hL2⟩ := hO2.form
          rw [bytesV_length] at hv2
          subst hv2
          have HR := Lib.hid (Read_any A2 c2 (section_ 9 E) w2 hL2 (by rw [sec_length]; omega))
          have HB2 := Lib.hid (HB.out.trans hB2)
          have hsz2 : H0 ≤ w2.heap.size := Nat.le_trans hsz hB2.size
          clear hO2 hB2 hL2
          go_wp2_with fail
          refine HR.out.mono ?_
          rintro e w3 ⟨p, rfl, hp, hR3, hB3⟩
          have HB3 := Lib.hid (HB2.out.trans (hB3.mono hsz2))
          have hsz3 : H0 ≤ w3.heap.size := Nat.le_trans hsz2 hB3.size
          have hpH : H0 ≤ p := by omega
          have hS1 := Section_any p 9 (section_ 9 E, 0) w3 hR3
          have hsb := sec_back 9 E (by omega)
          rw [hsb.1, hsb.2] at hS1
          have HS1 := Lib.hid hS1
          clear hB3 hR3 hS1 hsb
          go_wp2_with fail
          refine HS1.out.mono ?_
          rintro e w4 ⟨q, rfl, hq, hRq, hRp, hG4⟩
          have HB4 : Hid (Below H0 w w4) := Lib.hid (HB3.out.grown hG4 hsz3 (fun k hk => by injection hk with hk; omega))
          have hsz4 : H0 ≤ w4.heap.size := Nat.le_trans hsz3 hG4.size
          have hqH : H0 ≤ q := by omega
          have HRq := Lib.hid hRq
          have hE1 : Calls Try.prog 25 #[.pointer (some ⟨p, 0, none⟩)] w4 fun e w' => e = .returned (.int .i64 0) ∧ w4 = w' := End_any p ([], 0) w4 hRp
          have HE1 := Lib.hid hE1
          clear hRq hRp hG4 hE1
          go_wp2_with fail
          refine HE1.out.mono ?_
          rintro e w5 ⟨rfl, rfl⟩
          clear HE1 HS1 HR HP
          have HALL : Hid (∀ W, w4.grownBy W (some q) → Below H0 w W) := Lib.hid (fun W hW => HB4.out.grown hW hsz4 (fun k hk => by injection hk with hk; omega))
          go_wp2_with fail
          go_loopw [10] (fun k wr => ∃ i, i ≤ vs.length ∧ k = .int .i64 (i : Nat) ∧ RD wr q (encN (vs.drop i) ++ encT ls, 0) ∧ w4.grownBy wr (some q)) (fun k _ => vs.length - (intOf k).toNat)
          case atStart => exact ⟨0, by omega, rfl, by rw [List.drop_zero, ← HE.out]; exact HRq.out, only_refl _ _⟩
          case round =>
            obtain ⟨i, hi, rfl, hR, hG⟩ := hrel
            clear HB HRq HB2 HB3 HB4
            by_cases hlt : i < vs.length
            · obtain ⟨x, hx⟩ : ∃ x, x = vs[i] := ⟨_, rfl⟩
              have hx64 : x < 18446744073709551616 := HV.out x (by rw [hx]; exact List.getElem_mem hlt)
              have hg : (numsV vs)[i]? = some (.int .u64 (x : Nat)) := by rw [hx]; exact numsV_get vs i hlt
              have hED : encN (vs.drop i) = enc1 x ++ encN (vs.drop (i + 1)) := by rw [hx]; exact encN_drop vs i hlt
              obtain ⟨g, off, rfl, hgl, hcell⟩ := HA.out.at_ hg
              clear hg hx
              have HG := Lib.hid hG
              have HCELL : Hid (∀ W, Only q wr.drew W → W.cell? ⟨g, off + i, none⟩ = some (.int .u64 (x : Nat))) := fun W hW => by
                rw [(HALL.out W (only_trans (only_drew HG.out) hW)).cell (by exact hgl)]
                exact hcell
              have HEND : Hid (∀ W, Only q wr.drew W → w4.grownBy W (some q)) := fun W hW => only_trans (only_drew HG.out) hW
              obtain ⟨y, hy, hyl⟩ : ∃ y, y = x % 65536 ∧ y < 65536 := ⟨_, rfl, by omega⟩
              obtain ⟨z, hz, hzl⟩ : ∃ z, z = x % 4294967296 ∧ z < 4294967296 := ⟨_, rfl, by omega⟩
              have e1 : IntKind.u16.wrap (x : Int) = (y : Int) := by rw [IntKind.wrap_u16]; omega
              have e2 : IntKind.u32.wrap (x : Int) = (z : Int) := by rw [IntKind.wrap_u32']; omega
              have e3 : ((x : Int)).tmod 65536 = (y : Int) := by rw [Int.tmod_eq_emod_of_nonneg (by omega)]; omega
              have e4 : ((x : Int)).tmod 4294967296 = (z : Int) := by rw [Int.tmod_eq_emod_of_nonneg (by omega)]; omega
              obtain ⟨l3, hl3⟩ : ∃ l, l = encN (vs.drop (i + 1)) ++ encT ls := ⟨_, rfl⟩
              obtain ⟨l2, hl2⟩ : ∃ l, l = var x ++ l3 := ⟨_, rfl⟩
              obtain ⟨l1, hl1⟩ : ∃ l, l = low 4 z ++ l2 := ⟨_, rfl⟩
              have hR0 : RD wr q (low 2 y ++ l1, 0) := by
                rw [hED, enc1, ← hy, ← hz] at hR
                rw [hl1, hl2, hl3]
                simpa only [List.append_assoc] using hR
              have HRD : Hid (∀ W, Tame.Later wr.drew W → RD W q (low 2 y ++ l1, 0)) := fun W hW => (hR0.below (Below.refl wr.heap.size wr).drew hR0.lt).below hW hR0.lt
              have C16 : Hid (∀ W, RD W q (low 2 y ++ l1, 0) → Calls Try.prog 28 #[.pointer (some ⟨q, 0, none⟩)] W (Numbered W q .u16 y (l1, 0))) := fun W h => by
                have := U16_any q _ W h
                rw [num2_back y l1 hyl] at this
                exact this
              have C32 : Hid (∀ W, RD W q (l1, 0) → Calls Try.prog 29 #[.pointer (some ⟨q, 0, none⟩)] W (Numbered W q .u32 z (l2, 0))) := fun W h => by
                have := U32_any q _ W h
                rw [hl1, num4_back z l2 hzl] at this
                exact this
              have CV : Hid (∀ W, RD W q (l2, 0) → Calls Try.prog 30 #[.pointer (some ⟨q, 0, none⟩), .int .u64 18446744073709551615] W (Numbered W q .u64 x (l3, 0))) := fun W h => by
                have := Var_any q 18446744073709551615 _ W h
                rw [hl2, varS_var x l3 0 _ hx64 (by omega)] at this
                exact this
              have HL3 := Lib.hid hl3
              clear hR hR0 hED hl1 hl2 hl3 hcell hy hz hG
              go_wp2_with fail
              refine Tame.wp_region_tamw (L := Tame.Later) (M := Only q) [1, 10, 20] (by kernel_rfl) (by kernel_rfl) Tame.Later.refl Tame.Later.trans (Only.of q) (Only.trans q) ?_
              repeat
                ((first
                  | (refine Tame.walk2_known (o := ⟨some 87, _, _, _, _, _⟩) (Only.of q) (fun _ => rfl) ?_; apply Exists.intro; refine ⟨fun vals w2 hL hM hd => ?_, ?_⟩; (focus (have hc := HCELL.out w2 hM; clear hd; go_simp; exact Tame.Is.mk (Tame.Later.refl _))))
                  | (refine Tame.walk2_known (o := ⟨some 96, _, _, _, _, _⟩) (Only.of q) (fun _ => rfl) ?_; apply Exists.intro; refine ⟨fun vals w2 hL hM hd => ?_, ?_⟩; (focus (have hc := HCELL.out w2 hM; clear hd; go_simp; exact Tame.Is.mk (Tame.Later.refl _))))
                  | (refine Tame.walk2_known (o := ⟨some 106, _, _, _, _, _⟩) (Only.of q) (fun _ => rfl) ?_; apply Exists.intro; refine ⟨fun vals w2 hL hM hd => ?_, ?_⟩; (focus (have hc := HCELL.out w2 hM; clear hd; go_simp; exact Tame.Is.mk (Tame.Later.refl _))))
                  | (refine Tame.walk2_write (o := ⟨some 83, _, _, _, _, _⟩) (Got q (.int .u16 y) (l1, 0)) (some 10) (fun _ => rfl) (by kernel_rfl) (by kernel_rfl) (Got.later q _ _) (fun vals w2 hL hM hd => ?_) ?_; (focus (have hr := HRD.out w2 (hL (by kernel_rfl)); clear hd; go_simp; exact (C16.out w2 hr).mono fun e w' ⟨he, hr, hg⟩ => ⟨_, he, hg, rfl, hr⟩)))
                  | (refine Tame.walk2_write (o := ⟨some 92, _, _, _, _, _⟩) (Got q (.int .u32 z) (l2, 0)) (some 20) (fun _ => rfl) (by kernel_rfl) (by kernel_rfl) (Got.later q _ _) (fun vals w2 hL hM hd => ?_) ?_; (focus (have hr : Got q (.int .u16 y) (l1, 0) (vals 1) w2 := hd 1 _ rfl (by kernel_rfl) (by kernel_rfl); clear hd; go_simp; exact (C32.out w2 hr.2).mono fun e w' ⟨he, hr, hg⟩ => ⟨_, he, hg, rfl, hr⟩)))
                  | (refine Tame.walk2_write (o := ⟨some 102, _, _, _, _, _⟩) (Got q (.int .u64 x) (l3, 0)) (none) (fun _ => rfl) (by kernel_rfl) (by kernel_rfl) (Got.later q _ _) (fun vals w2 hL hM hd => ?_) ?_; (focus (have hr : Got q (.int .u32 z) (l2, 0) (vals 10) w2 := hd 10 _ rfl (by kernel_rfl) (by kernel_rfl); clear hd; go_simp; exact (CV.out w2 hr.2).mono fun e w' ⟨he, hr, hg⟩ => ⟨_, he, hg, rfl, hr⟩)))
                  | (refine Tame.walk2_known (o := ⟨some 89, _, _, _, _, _⟩) (Only.of q) (fun _ => rfl) ?_; apply Exists.intro; refine ⟨fun vals w2 hL hM hd => ?_, ?_⟩; (focus (have hg : Got q (.int .u16 y) (l1, 0) (vals 1) w2 := hd 1 _ rfl (by kernel_rfl) (by kernel_rfl); have hv := hg.1; clear hd hg; go_simp; exact Tame.Is.mk (Tame.Later.refl _))))
                  | (refine Tame.walk2_known (o := ⟨some 98, _, _, _, _, _⟩) (Only.of q) (fun _ => rfl) ?_; apply Exists.intro; refine ⟨fun vals w2 hL hM hd => ?_, ?_⟩; (focus (have hg : Got q (.int .u32 z) (l2, 0) (vals 10) w2 := hd 10 _ rfl (by kernel_rfl) (by kernel_rfl); have hv := hg.1; clear hd hg; go_simp; exact Tame.Is.mk (Tame.Later.refl _))))
                  | (refine Tame.walk2_known (o := ⟨some 107, _, _, _, _, _⟩) (Only.of q) (fun _ => rfl) ?_; apply Exists.intro; refine ⟨fun vals w2 hL hM hd => ?_, ?_⟩; (focus (have hg : Got q (.int .u64 x) (l3, 0) (vals 20) w2 := hd 20 _ rfl (by kernel_rfl) (by kernel_rfl); have hv := hg.1; clear hd hg; go_simp; exact Tame.Is.mk (Tame.Later.refl _))))
                  | (refine Tame.walk2_known (Only.of q) (fun _ => rfl) ?_; apply Exists.intro; refine ⟨fun vals w2 hL hM hd => ?_, ?_⟩; (focus (go_simp; first | exact Tame.Is.mk (Tame.Later.refl _) | (rw [if_neg]; (focus exact Tame.Is.mk (Tame.Later.refl _)); omega)))))
                 simp only [Act.put, List.setIfInBounds_toArray, List.set_cons_zero, List.set_cons_succ, List.nil_append, List.cons_append, List.length_cons, List.length_nil, Nat.zero_add, Nat.reduceAdd])
              refine Tame.walk2_end fun vals w6 _ hM hts => ?_
              have ho : Got q (.int .u64 x) (l3, 0) (vals 20) w6 := hts 20 _ rfl rfl
              have HO2 := Lib.hid ho.2
              have HB2 := Lib.hid (HEND.out w6 hM)
              clear hts ho hM
              go_wp2_with fail
              exact ⟨⟨i + 1, by omega, by go_num, by rw [← HL3.out]; exact HO2.out, HB2.out⟩, by simp [intOf]; omega⟩
            · obtain rfl : i = vs.length := by omega
              rw [List.drop_length] at hR
              have HR := Lib.hid hR
              have HG := Lib.hid hG
              clear hR hG
              go_wp2_with fail
              go_loopw [11] (fun k wr => ∃ i, i ≤ ls.length ∧ k = .int .i64 (i : Nat) ∧ RD wr q (encT (ls.drop i), 0) ∧ w4.grownBy wr (some q)) (fun k _ => ls.length - (intOf k).toNat)
              case atStart => exact ⟨0, by omega, rfl, by rw [List.drop_zero]; exact HR.out, HG.out⟩
              case round =>
                obtain ⟨i, hi, rfl, hR, hG⟩ := hrel
                clear HR HG
                by_cases hlt : i < ls.length
                · obtain ⟨x, hx⟩ : ∃ x, x = ls[i] := ⟨_, rfl⟩
                  have hx3 : x.size ≤ 300 := H300.out x (by rw [hx]; exact List.getElem_mem hlt)
                  have hg : (strsV ls)[i]? = some (.string x) := by rw [hx]; exact strsV_get ls i hlt
                  have hED : encT (ls.drop i) = text x.data.toList ++ encT (ls.drop (i + 1)) := by rw [hx]; exact encT_drop ls i hlt
                  obtain ⟨g, off, rfl, hgl, hcell⟩ := HC.out.at_ hg
                  clear hg hx
                  have HG := Lib.hid hG
                  have HCELL : Hid (∀ W, Only q wr.drew W → W.cell? ⟨g, off + i, none⟩ = some (.string x)) := fun W hW => by
                    rw [(HALL.out W (only_trans (only_drew HG.out) hW)).cell (by exact hgl)]
                    exact hcell
                  have HEND : Hid (∀ W, Only q wr.drew W → w4.grownBy W (some q)) := fun W hW => only_trans (only_drew HG.out) hW
                  rw [hED] at hR
                  have HRD : Hid (∀ W, Tame.Later wr.drew W → RD W q (text x.data.toList ++ encT (ls.drop (i + 1)), 0)) := fun W hW => (hR.below (Below.refl wr.heap.size wr).drew hR.lt).below hW hR.lt
                  obtain ⟨l1, hl1⟩ : ∃ l, l = encT (ls.drop (i + 1)) := ⟨_, rfl⟩
                  rw [← hl1] at HRD
                  have CT : Hid (∀ W, RD W q (text x.data.toList ++ l1, 0) → Calls Try.prog 31 #[.pointer (some ⟨q, 0, none⟩), .int .u64 300] W (Read_ W q x.data.toList (l1, 0))) := fun W h => by
                    have := Text_any q 300 _ W h (by omega)
                    rw [textS_text x.data.toList l1 0 300 (by simp; omega) (by simpa using hx3)] at this
                    exact this
                  have HL1 := Lib.hid hl1
                  clear hR hED hl1 hcell hG
                  go_wp2_with fail
                  refine Tame.wp_region_tamw (L := Tame.Later) (M := Only q) [1] (by kernel_rfl) (by kernel_rfl) Tame.Later.refl Tame.Later.trans (Only.of q) (Only.trans q) ?_
                  repeat
                    ((first
                      | (refine Tame.walk2_known (o := ⟨some 120, _, _, _, _, _⟩) (Only.of q) (fun _ => rfl) ?_; apply Exists.intro; refine ⟨fun vals w2 hL hM hd => ?_, ?_⟩; (focus (have hc := HCELL.out w2 hM; clear hd; go_simp; exact Tame.Is.mk (Tame.Later.refl _))))
                      | (refine Tame.walk2_write (o := ⟨some 116, _, _, _, _, _⟩) (Got q (.string x) (l1, 0)) (none) (fun _ => rfl) (by kernel_rfl) (by kernel_rfl) (Got.later q _ _) (fun vals w2 hL hM hd => ?_) ?_; (focus (have hr := HRD.out w2 (hL (by kernel_rfl)); clear hd; go_simp; exact (CT.out w2 hr).mono fun e w' ⟨he, hr, hg⟩ => ⟨_, he, hg, rfl, hr⟩)))
                      | (refine Tame.walk2_known (o := ⟨some 121, _, _, _, _, _⟩) (Only.of q) (fun _ => rfl) ?_; apply Exists.intro; refine ⟨fun vals w2 hL hM hd => ?_, ?_⟩; (focus (have hg : Got q (.string x) (l1, 0) (vals 1) w2 := hd 1 _ rfl (by kernel_rfl) (by kernel_rfl); have hv := hg.1; clear hd hg; go_simp; exact Tame.Is.mk (Tame.Later.refl _))))
                      | (refine Tame.walk2_known (Only.of q) (fun _ => rfl) ?_; apply Exists.intro; refine ⟨fun vals w2 hL hM hd => ?_, ?_⟩; (focus (go_simp; first | exact Tame.Is.mk (Tame.Later.refl _) | (rw [if_neg]; (focus exact Tame.Is.mk (Tame.Later.refl _)); omega)))))
                     simp only [Act.put, List.setIfInBounds_toArray, List.set_cons_zero, List.set_cons_succ, List.nil_append, List.cons_append, List.length_cons, List.length_nil, Nat.zero_add])
                  refine Tame.walk2_end fun vals w6 _ hM hts => ?_
                  have ho : Got q (.string x) (l1, 0) (vals 1) w6 := hts 1 _ rfl rfl
                  have HO2 := Lib.hid ho.2
                  have HB2 := Lib.hid (HEND.out w6 hM)
                  clear hts ho hM
                  go_wp2_with fail
                  exact ⟨⟨i + 1, by omega, by go_num, by rw [← HL1.out]; exact HO2.out, HB2.out⟩, by simp [intOf]; omega⟩
                · obtain rfl : i = ls.length := by omega
                  rw [List.drop_length] at hR
                  have hE2 : Calls Try.prog 25 #[.pointer (some ⟨q, 0, none⟩)] wr fun e w' => e = .returned (.int .i64 0) ∧ wr = w' := End_any q ([], 0) wr hR
                  have HE2 := Lib.hid hE2
                  have HG := Lib.hid hG
                  have hsz6 : H0 ≤ wr.heap.size := Nat.le_trans hsz4 hG.size
                  clear hR hE2 hG
                  go_wp2_with fail
                  refine HE2.out.mono ?_
                  rintro e w6 ⟨rfl, rfl⟩
                  go_wp2_with fail
                  refine (awake1_any _).mono ?_
                  rintro e w7 ⟨rfl, hB7⟩
                  have HB7 := Lib.hid ((HALL.out _ HG.out).trans (hB7.mono hsz6))
                  clear hB7
                  go_wp2_with fail
                  go_ret
                  exact ⟨rfl, HB7.out⟩

end Go.Proofs.Ytfclmiijelpjbaa
