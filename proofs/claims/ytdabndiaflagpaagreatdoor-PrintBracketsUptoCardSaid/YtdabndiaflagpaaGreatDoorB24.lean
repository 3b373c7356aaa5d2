/- Parts: PsZ6, PtA, PtB. -/
import Derived.Test.YtdabndiaflagpaaGreatDoorB02
import Derived.Test.YtdabndiaflagpaaGreatDoorB20
import Derived.Test.YtdabndiaflagpaaGreatDoorB23
import Derived.Test.YtdabndiaflagpaaGreatDoorB10
import Derived.Test.YtdabndiaflagpaaGreatDoorB04
set_option maxRecDepth 100000
set_option maxHeartbeats 4000000
set_option linter.unusedVariables false
namespace Go.Proofs.YtdabndiaflagpaaGreatDoor
open Go.RowKit

def GT (t : T) : Prop := nameB t = true ∧ t.length ≤ 1000000
def GV (v : Vr) : Prop := varB v = true ∧ okV v
def GQ (q : Q) : Prop := eqB q = true ∧ okQ q
def GN (n : Nd) : Prop := nodeB n = true ∧ okN n
theorem entryP_good {n : Nat} {L L' : List Tk} {x : T} (hw : WFt L) (h : entryP n L = .ok x L') : GT x ∧ WFt L' ∧ L'.length < L.length := by
  have hs := entryP_sh n hw x L' h
  unfold entryP at h
  split at h
  · rename_i hk
    split at h
    · cases h
    · injection h with h1 h2
      rw [← h1]
      exact ⟨name_at hw hk, hs.1, hs.2⟩
  · cases h
theorem namesF_good (n : Nat) : ∀ (f : Nat) (acc ts : List T) (L L' : List Tk), WFt L → (∀ t ∈ acc, GT t) → 1 ≤ acc.length → namesF f n acc L = .ok ts L' → (∀ t ∈ ts, GT t) ∧ 1 ≤ ts.length
  | 0, acc, ts, L, L', _, _, _, h => by unfold namesF at h; cases h
  | f + 1, acc, ts, L, L', hw, ha, hl, h => by
    unfold namesF at h
    split at h
    · rename_i hp
      obtain ⟨x, L1, h1, h2⟩ := bind_ok h
      obtain ⟨g1, g2, _⟩ := entryP_good (is_sh hw hp (by decide)).1 h1
      exact namesF_good n f _ ts L1 L' g2 (fun t ht => by
        rcases List.mem_append.1 ht with ht | ht
        · exact ha t ht
        · rw [List.mem_singleton.1 ht]; exact g1) (by simp) h2
    · injection h with h _; rw [← h]; exact ⟨ha, hl⟩
theorem namesP_good {n : Nat} {L L' : List Tk} {ts : List T} (hw : WFt L) (h : namesP n L = .ok ts L') : (∀ t ∈ ts, GT t) ∧ 1 ≤ ts.length ∧ n + ts.length ≤ 1000 := by
  obtain ⟨x, L1, h1, h2⟩ := bind_ok h
  obtain ⟨g1, g2, _⟩ := entryP_good hw h1
  obtain ⟨k1, k2⟩ := namesF_good n _ [x] ts L1 L' g2 (fun t ht => by rw [List.mem_singleton.1 ht]; exact g1) (by simp) h2
  exact ⟨k1, k2, namesF_few n _ _ _ _ _ (by have := entryP_few h1; simp; omega) h2⟩
theorem typeP_rng {L L' : List Tk} {ty : Int} (h : typeP L = .ok ty L') : ty = 0 ∨ ty = 1 := by
  unfold typeP at h
  split at h
  · injection h with h _; exact .inl h.symm
  · obtain ⟨_, L1, _, h2⟩ := bind_ok h
    injection h2 with h2 _; exact .inr h2.symm
theorem groupP_good {n : Nat} {L L' : List Tk} {vs : List Vr} (hw : WFt L) (h : groupP n L = .ok vs L') : (∀ v ∈ vs, GV v) ∧ 1 ≤ vs.length ∧ n + vs.length ≤ 1000 := by
  have hf := groupP_few h
  obtain ⟨ts, L1, h1, h2⟩ := bind_ok h
  obtain ⟨g1, g2, _⟩ := namesP_good hw h1
  obtain ⟨_, L2, _, h3⟩ := bind_ok h2
  obtain ⟨ty, L3, h4, h5⟩ := bind_ok h3
  injection h5 with h5 _
  subst h5
  refine ⟨fun v hv => ?_, by simpa using g2, hf⟩
  obtain ⟨t, ht, rfl⟩ := List.mem_map.1 hv
  obtain ⟨k1, k2⟩ := g1 t ht
  have hty : typB ty = true := by rcases typeP_rng h4 with rfl | rfl <;> decide
  exact ⟨by show (nameB t && typB ty) = true; rw [k1, hty]; rfl, by show t.length ≤ _; omega⟩
theorem mem_app {α : Type} {P : α → Prop} {xs ys : List α} (h : ∀ v ∈ xs, P v) (k : ∀ v ∈ ys, P v) : ∀ v ∈ xs ++ ys, P v := fun v hv => (List.mem_append.1 hv).elim (h v) (k v)
theorem varsF_good : ∀ (f : Nat) (acc vs : List Vr) (L L' : List Tk), WFt L → (∀ v ∈ acc, GV v) → 1 ≤ acc.length → acc.length ≤ 1000 → varsF f acc L = .ok vs L' → (∀ v ∈ vs, GV v) ∧ 1 ≤ vs.length ∧ vs.length ≤ 1000
  | 0, acc, vs, L, L', _, _, _, _, h => by unfold varsF at h; cases h
  | f + 1, acc, vs, L, L', hw, ha, hl, hm, h => by
    unfold varsF at h
    split at h
    · rename_i hp
      have ht := (is_sh hw hp (by decide)).1
      obtain ⟨x, L1, h1, h2⟩ := bind_ok h
      obtain ⟨g1, g2, g3⟩ := groupP_good ht h1
      exact varsF_good f _ vs L1 L' (groupP_sh _ ht _ _ h1).1 (mem_app ha g1) (by simp; omega) (by simp; omega) h2
    · injection h with h _; rw [← h]; exact ⟨ha, hl, hm⟩
theorem varsP_good {L L' : List Tk} {vs : List Vr} (hw : WFt L) (h : varsP L = .ok vs L') : (∀ v ∈ vs, GV v) ∧ 1 ≤ vs.length ∧ vs.length ≤ 1000 := by
  obtain ⟨x, L1, h1, h2⟩ := bind_ok h
  obtain ⟨g1, g2, g3⟩ := groupP_good hw h1
  exact varsF_good _ x vs L1 L' (groupP_sh _ hw _ _ h1).1 g1 g2 (by omega) h2
theorem localsF_good : ∀ (f : Nat) (acc vs : List Vr) (L L' : List Tk), WFt L → (∀ v ∈ acc, GV v) → acc.length ≤ 1000 → localsF f acc L = .ok vs L' → (∀ v ∈ vs, GV v) ∧ vs.length ≤ 1000
  | 0, acc, vs, L, L', _, _, _, h => by unfold localsF at h; cases h
  | f + 1, acc, vs, L, L', hw, ha, hm, h => by
    unfold localsF at h
    split at h
    · obtain ⟨x, L1, h1, h2⟩ := bind_ok h
      obtain ⟨g1, g2, g3⟩ := groupP_good hw h1
      have w1 := (groupP_sh _ hw _ _ h1).1
      obtain ⟨_, L2, h3, h4⟩ := bind_ok h2
      exact localsF_good f _ vs L2 L' (mustP_sh w1 (by decide) _ _ h3).1 (mem_app ha g1) (by simp; omega) h4
    · injection h with h _; rw [← h]; exact ⟨ha, hm⟩
theorem varP_good {L L' : List Tk} {vs : List Vr} (hw : WFt L) (h : varP L = .ok vs L') : (∀ v ∈ vs, GV v) ∧ vs.length ≤ 1000 := by
  unfold varP at h
  split at h
  · rename_i hp
    have ht := (is_sh hw hp (by decide)).1
    obtain ⟨x, L1, h1, h2⟩ := bind_ok h
    obtain ⟨g1, g2, g3⟩ := groupP_good ht h1
    have w1 := (groupP_sh _ ht _ _ h1).1
    obtain ⟨_, L2, h3, h4⟩ := bind_ok h2
    exact localsF_good _ x vs L2 L' (mustP_sh w1 (by decide) _ _ h3).1 g1 (by omega) h4
  · injection h with h _; rw [← h]; exact ⟨(fun v hv => by cases hv), by simp⟩
theorem leftP_good {L L' : List Tk} {ts : List T} (hw : WFt L) (h : leftP L = .ok ts L') : (∀ t ∈ ts, GT t) ∧ 1 ≤ ts.length ∧ ts.length ≤ 1000 := by
  unfold leftP at h
  split at h
  · rename_i hp
    obtain ⟨x, L1, h1, h2⟩ := bind_ok h
    obtain ⟨g1, g2, g3⟩ := namesP_good (is_sh hw hp (by decide)).1 h1
    obtain ⟨_, L2, _, h4⟩ := bind_ok h2
    injection h4 with h4 _
    subst h4
    exact ⟨g1, g2, by omega⟩
  · obtain ⟨x, L1, h1, h2⟩ := bind_ok h
    injection h2 with h2 _
    subst h2
    unfold nmP at h1
    split at h1
    · rename_i hk
      injection h1 with h1 _
      subst h1
      exact ⟨fun t ht => by rw [List.mem_singleton.1 ht]; exact name_at hw hk, by simp, by simp⟩
    · cases h1
theorem all_of {α : Type} {f : α → Bool} {l : List α} (h : ∀ x ∈ l, f x = true) : l.all f = true := List.all_eq_true.2 h
theorem eqnP_good {L L' : List Tk} {q : Q} (hw : WFt L) (hl : L.length ≤ 1000001) (h : eqnP L = .ok q L') : GQ q := by
  obtain ⟨ts, L1, h1, h2⟩ := bind_ok h
  obtain ⟨g1, g2, g3⟩ := leftP_good hw h1
  have w1 := leftP_sh hw _ _ h1
  obtain ⟨_, L2, h3, h4⟩ := bind_ok h2
  have w2 := mustP_sh w1.1 (by decide) _ _ h3
  obtain ⟨x, L3, h5, h6⟩ := bind_ok h4
  obtain ⟨o1, o2⟩ := (fits_all _).expr _ _ w2.1 _ _ h5
  have hs := (sizes _).expr _ _ w2.1 _ _ h5
  split at h6
  · cases h6
  · rename_i hd
    obtain ⟨_, L4, _, h7⟩ := bind_ok h6
    injection h7 with h7 _
    subst h7
    have hz : x.size ≤ 1000001 := by have := w1.2; have := w2.2; omega
    refine ⟨?_, ⟨⟨by show ts.length ≤ _; omega, fun t ht => by have := (g1 t ht).2; omega⟩, o2, by show x.size ≤ _; omega⟩⟩
    have e1 : namesB ts = true := by
      unfold namesB fewB
      rw [all_of fun t ht => (g1 t ht).1]
      simpa using g3
    have e2 : rightB x = true := by
      unfold rightB inB
      rw [o1]
      simp
      have := x.depth_le
      omega
    show (someB ts.length && namesB ts && rightB x) = true
    rw [e1, e2]
    unfold someB
    simp
    omega
theorem eqsF_good : ∀ (f : Nat) (acc qs : List Q) (L L' : List Tk), WFt L → L.length ≤ 1000001 → (∀ v ∈ acc, GQ v) → acc.length ≤ 1000 → eqsF f acc L = .ok qs L' → (∀ v ∈ qs, GQ v) ∧ qs.length ≤ 1000
  | 0, acc, qs, L, L', _, _, _, _, h => by unfold eqsF at h; cases h
  | f + 1, acc, qs, L, L', hw, hl, ha, hm, h => by
    unfold eqsF at h
    split at h
    · split at h
      · cases h
      · obtain ⟨x, L1, h1, h2⟩ := bind_ok h
        have w1 := eqnP_sh hw _ _ h1
        have g1 := eqnP_good hw hl h1
        exact eqsF_good f _ qs L1 L' w1.1 (by have := w1.2; omega) (mem_app ha fun v hv => by rw [List.mem_singleton.1 hv]; exact g1) (by simp; omega) h2
    · injection h with h _; rw [← h]; exact ⟨ha, hm⟩
theorem varsB_of {vs : List Vr} (h : ∀ v ∈ vs, GV v) (hl : vs.length ≤ 1000) : varsB vs = true ∧ okVs vs := by
  refine ⟨?_, by omega, fun v hv => (h v hv).2⟩
  unfold varsB fewB
  rw [all_of fun v hv => (h v hv).1]
  simpa using hl
theorem nodeP_good {L L' : List Tk} {n : Nd} (hw : WFt L) (hl : L.length ≤ 1000001) (h : nodeP L = .ok n L') : GN n := by
  obtain ⟨_, L1, h1, h⟩ := bind_ok h
  have w1 := mustP_sh hw (by decide) _ _ h1
  obtain ⟨nm, L2, h2, h⟩ := bind_ok h
  have w2 := nmP_sh w1.1 _ _ h2
  obtain ⟨_, L3, h3, h⟩ := bind_ok h
  have w3 := mustP_sh w2.1 (by decide) _ _ h3
  obtain ⟨ins, L4, h4, h⟩ := bind_ok h
  have w4 := insP_sh w3.1 _ _ h4
  obtain ⟨_, L5, h5, h⟩ := bind_ok h
  have w5 := mustsP_sh _ _ w4.1 (by decide) _ _ h5
  obtain ⟨outs, L6, h6, h⟩ := bind_ok h
  have w6 := varsP_sh w5.1 _ _ h6
  obtain ⟨_, L7, h7, h⟩ := bind_ok h
  have w7 := mustsP_sh _ _ w6.1 (by decide) _ _ h7
  obtain ⟨locals, L8, h8, h⟩ := bind_ok h
  have w8 := varP_sh w7.1 _ _ h8
  obtain ⟨_, L9, h9, h⟩ := bind_ok h
  have w9 := mustP_sh w8.1 (by decide) _ _ h9
  obtain ⟨eqs, L10, h10, h⟩ := bind_ok h
  obtain ⟨_, L11, h11, h⟩ := bind_ok h
  injection h with h _
  subst h
  have gn : GT nm := by
    unfold nmP at h2
    split at h2
    · rename_i hk
      injection h2 with h2 _
      rw [← h2]; exact name_at w1.1 hk
    · cases h2
  have gi : (∀ v ∈ ins, GV v) ∧ ins.length ≤ 1000 := by
    unfold insP at h4
    split at h4
    · injection h4 with h4 _; rw [← h4]; exact ⟨(fun v hv => by cases hv), by simp⟩
    · have := varsP_good w3.1 h4; exact ⟨this.1, this.2.2⟩
  have go := varsP_good w5.1 h6
  have gl := varP_good w7.1 h8
  have ge := eqsF_good _ _ _ _ _ w9.1 (by have := w1.2; have := w2.2; have := w3.2; have := w4.2; have := w5.2; have := w6.2; have := w7.2; have := w8.2; have := w9.2; omega) (fun v hv => by cases hv) (by simp) h10
  obtain ⟨i1, i2⟩ := varsB_of gi.1 gi.2
  obtain ⟨o1, o2⟩ := varsB_of go.1 go.2.2
  obtain ⟨l1, l2⟩ := varsB_of gl.1 gl.2
  have e1 : eqsB eqs = true := by
    unfold eqsB fewB
    rw [all_of fun v hv => (ge.1 v hv).1]
    simpa using ge.2
  refine ⟨?_, by show nm.length ≤ _; have := gn.2; omega, i2, o2, l2, by have := ge.2; show eqs.length ≤ _; omega, fun v hv => (ge.1 v hv).2⟩
  show (nameB nm && varsB ins && someB outs.length && varsB outs && varsB locals && eqsB eqs) = true
  rw [gn.1, i1, o1, l1, e1]
  unfold someB
  simp
  omega
theorem progF_good : ∀ (f : Nat) (acc ns : List Nd) (L L' : List Tk), WFt L → L.length ≤ 1000001 → (∀ v ∈ acc, GN v) → acc.length ≤ 1000 → progF f acc L = .ok ns L' → (∀ v ∈ ns, GN v) ∧ ns.length ≤ 1000
  | 0, acc, ns, L, L', _, _, _, _, h => by unfold progF at h; cases h
  | f + 1, acc, ns, L, L', hw, hl, ha, hm, h => by
    unfold progF at h
    split at h
    · split at h
      · cases h
      · obtain ⟨x, L1, h1, h2⟩ := bind_ok h
        have w1 := nodeP_sh hw _ _ h1
        have g1 := nodeP_good hw hl h1
        exact progF_good f _ ns L1 L' w1.1 (by have := w1.2; omega) (mem_app ha fun v hv => by rw [List.mem_singleton.1 hv]; exact g1) (by simp; omega) h2
    · split at h
      · injection h with h _; rw [← h]; exact ⟨ha, hm⟩
      · cases h
/-- What is parsed is right. -/
theorem progF_right {ts : List Tk} {ns : List Nd} {L : List Tk} (hw : WFt ts) (hl : ts.length ≤ 1000001) (h : progF (ts.length + 1) [] ts = .ok ns L) : nodesB ns = true ∧ okNs ns ∧ ns.length ≤ 1000 := by
  obtain ⟨h1, h2⟩ := progF_good _ [] ns ts L hw hl (fun v hv => by cases hv) (by simp) h
  refine ⟨?_, ⟨by omega, fun v hv => (h1 v hv).2⟩, h2⟩
  unfold nodesB fewB
  rw [all_of fun v hv => (h1 v hv).1]
  simpa using h2
end Go.Proofs.YtdabndiaflagpaaGreatDoor
namespace Go.Proofs.YtdabndiaflagpaaGreatDoor
open Go.RowKit

end Go.Proofs.YtdabndiaflagpaaGreatDoor
namespace Go.Proofs.YtdabndiaflagpaaGreatDoor
open Go.RowKit

end Go.Proofs.YtdabndiaflagpaaGreatDoor
