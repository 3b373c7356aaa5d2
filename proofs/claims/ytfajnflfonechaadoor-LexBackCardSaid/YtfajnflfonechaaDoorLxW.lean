/- DERIVED. What the chapter's examples say. -/
import Derived.Test.YtfajnflfonechaaDoorLxV
namespace Go.Proofs.YtfajnflfonechaaDoor
open Go.RowKit

set_option maxRecDepth 100000 in
set_option maxHeartbeats 4000000 in
theorem awake4_any (w : World) (he : LexEnv w) : Calls Tryd.prog 9 #[] w fun e w' => e = .returned (.bool true) ∧ Below w.heap.size w w' := by
  have HC1 : Hid (Calls Tryd.prog 6 #[.string ⟨#[120, 45, 62, 45, 49]⟩] w (LexOk [120, 45, 62, 45, 49] _ w)) := lex_ok aw1 w (by decide) he
  have HC2 : Hid (∀ w2, Below w.heap.size w w2 → Calls Tryd.prog 6 #[.string ⟨#[97, 45, 45, 98]⟩] w2 (LexOk [97, 45, 45, 98] _ w2)) := fun w2 hb => lex_ok aw2 w2 (by decide) (he.later hb)
  clear he
  go_enter Tryd.func9, Tryd.ntmps9
  go_upto_region 2 with (go_at_call 6; refine HC1.out.mono ?_; rintro e w1 ⟨g, c, rfl, hg, hgs, hrow, hb⟩; have HROW := Lib.hid hrow; have HB := Lib.hid hb; have HG := Lib.hid hg; have HGS := Lib.hid hgs; clear hrow hb hg hgs HC1)
  have HB1 : Hid (Below w.heap.size w (w1.alloc (.cells #[.int .i64 0, .int .i64 0] 24))) := Lib.hid ((HB.out).alloc HB.out.size _)
  have HX1 : Hid (Below w1.heap.size w1 (w1.alloc (.cells #[.int .i64 0, .int .i64 0] 24))) := Lib.hid ((Below.refl _ _).alloc (Nat.le_refl _) _)
  generalize w1.alloc (.cells #[.int .i64 0, .int .i64 0] 24) = wa at HB1 HX1 ⊢
  go_upto_region 3 with (go_at_call 6; refine (HC2.out _ HB1.out).mono ?_; rintro e w2 ⟨g2, c2, rfl, _, _, _, hb2⟩; have HB2 := Lib.hid hb2; clear hb2 HC2)
  have HB3 : Hid (Below w.heap.size w (w2.alloc (.cells #[.int .i64 0, .int .i64 0] 24))) := Lib.hid ((HB1.out.trans (HB2.out.mono HB1.out.size)).alloc (Nat.le_trans HB1.out.size HB2.out.size) _)
  have HX3 : Hid (Below w1.heap.size w1 (w2.alloc (.cells #[.int .i64 0, .int .i64 0] 24))) := Lib.hid ((HX1.out.trans (HB2.out.mono HX1.out.size)).alloc (Nat.le_trans HX1.out.size HB2.out.size) _)
  generalize w2.alloc (.cells #[.int .i64 0, .int .i64 0] 24) = wb at HB3 HX3 ⊢
  have hrow := (HROW.out).later HX3.out HGS.out
  have c1 : wb.cell? ⟨g, 6, none⟩ = some (.string ⟨#[45, 62]⟩) := (hrow 1 _ rfl).2.1
  have c2 : wb.cell? ⟨g, 17, none⟩ = some (.int .i64 1) := (hrow 3 _ rfl).2.2.1
  have c3 : wb.cell? ⟨g, 18, none⟩ = some (.int .i64 1) := (hrow 3 _ rfl).2.2.2.1
  have c4 : wb.cell? ⟨g, 19, none⟩ = some (.int .i64 5) := (hrow 3 _ rfl).2.2.2.2
  clear hrow
  go_wp2_with fail
  go_ret
  exact ⟨rfl, HB3.out⟩

end Go.Proofs.YtfajnflfonechaaDoor
