/-
  The document's own row and value of interchangeref03 are what the plain functions of PTab say, by induction on a text's size; nothing that was there is changed. Conditions: texts of fewer than 2^62 bytes.
-/
import Derived.Test.YtdgpemkoicoheaaDoorRTabA
namespace Go.Proofs.YtdgpemkoicoheaaDoor
open Go.RowKit

/-- the document's value answers as PTab's val, of texts of at most n bytes -/
def RVal (n : Nat) : Prop := ∀ (s : ByteArray) (depth : Int) (w : World), s.size ≤ n → s.size < 4611686018427387904 → 0 ≤ depth → depth ≤ 32 →
  Calls Tryd.prog 26 #[.string s, .int .i64 depth] w fun e w' => ∃ r d, e = .returned (.tuple #[.string r, .int .i64 d, .int .i64 (val s (32 - depth)).err]) ∧ ((val s (32 - depth)).err = 0 → r = (val s (32 - depth)).rest ∧ d = depth + (val s (32 - depth)).deep) ∧ Below w.heap.size w w'
/-- a row's answer -/
def RRow (kf : Bool) (n : Nat) : Prop := ∀ (b : ByteArray) (depth : Int) (w : World), b.size ≤ n → b.size < 4611686018427387904 → 0 ≤ depth → depth ≤ 32 →
  Calls Tryd.prog 44 #[.string b, .int .i64 depth, .bool kf] w fun e w' => ∃ d, e = .returned (.tuple #[.int .i64 d, .int .i64 (wErr (items kf b (32 - depth)).2)]) ∧ ((items kf b (32 - depth)).2 = 0 → d = depth + deepest (items kf b (32 - depth)).1) ∧ Below w.heap.size w w'

theorem wErr_cases (x : Int) : (x = 2 ∧ wErr x = 3) ∨ (x ≠ 2 ∧ wErr x = x) := by
  unfold wErr
  split
  · exact .inl ⟨by assumption, rfl⟩
  · exact .inr ⟨by assumption, rfl⟩

set_option maxRecDepth 100000 in
set_option maxHeartbeats 2000000 in
theorem rrow_of (n : Nat) (hv : RVal n) : RRow false n := by
  intro body depth w hn hs h0 h32
  have hstart := deepest_nonneg (items false body (32 - depth)).1
  go_enter Tryd.func44, Tryd.ntmps44
  go_wp2
  go_loopw [0, 8] (fun b d wr => ∃ (r : ByteArray) (k : Int), b = .string r ∧ d = .int .i64 k ∧ r.size ≤ body.size ∧ depth ≤ k ∧ k ≤ 32 ∧ Hid ((items false r (32 - depth)).2 = (items false body (32 - depth)).2 ∧ max k (depth + deepest (items false r (32 - depth)).1) = depth + deepest (items false body (32 - depth)).1) ∧ Below w.heap.size w wr) (fun b _ _ => tabLen b)
  case atStart => exact ⟨body, depth, rfl, rfl, Nat.le_refl _, by omega, by omega, Lib.hid ⟨rfl, by omega⟩, Below.refl _ _⟩
  case round =>
    obtain ⟨r, k, rfl, rfl, hr1, hk0, hk1, HI, hbr⟩ := hrel
    by_cases hz : r.size = 0
    · have H : Hid (wErr (items false body (32 - depth)).2 = 0 ∧ k = depth + deepest (items false body (32 - depth)).1) := Lib.hid (by
        have h := HI.out
        rw [items_nil false _ hz] at h
        rw [← h.1, ← h.2]
        refine ⟨rfl, ?_⟩
        simp [deepest]; omega)
      clear HI
      go_wp2
      go_ret2
      exact ⟨k, by rw [H.out.1]; rfl, fun _ => H.out.2, hbr⟩
    · have hpos : 0 < r.size := by omega
      go_wp2_with fail
      refine (hv r depth wr (by omega) (by omega) h0 h32).mono ?_
      rintro e w2 ⟨y, d, rfl, hok, hb2⟩
      have hbr2 := hbr.trans (hb2.mono hbr.size)
      obtain ⟨d0, d1⟩ := val_deep_le (s := r) (room := 32 - depth) (by omega)
      clear hbr hb2
      by_cases he : (val r (32 - depth)).err = 0
      · obtain ⟨rfl, rfl⟩ := hok he
        have hlt := val_rest he
        have HX : Hid ((items false (val r (32 - depth)).rest (32 - depth)).2 = (items false body (32 - depth)).2 ∧ max (max k (depth + (val r (32 - depth)).deep)) (depth + deepest (items false (val r (32 - depth)).rest (32 - depth)).1) = depth + deepest (items false body (32 - depth)).1) := Lib.hid (by
          have h1 := HI.out
          have h2 := items_go false (room := 32 - depth) hz rfl he
          simp only [behindKey_false] at h2
          rw [h2] at h1
          simp only [deepest] at h1
          exact ⟨h1.1, by omega⟩)
        rw [he]
        clear HI hok he
        generalize (val r (32 - depth)).deep = x at d0 d1 HX ⊢
        generalize (val r (32 - depth)).rest = y at hlt HX ⊢
        by_cases hm : k < depth + x
        · have em : max k (depth + x) = depth + x := by omega
          rw [em] at HX
          go_wp2
          go_roundw
          case rel => exact ⟨y, _, rfl, rfl, by omega, by omega, by omega, HX, hbr2⟩
          case measure => simp only [tabLen]; omega
        · have em : max k (depth + x) = k := by omega
          rw [em] at HX
          go_wp2
          go_roundw
          case rel => exact ⟨y, _, rfl, rfl, by omega, by omega, by omega, HX, hbr2⟩
          case measure => simp only [tabLen]; omega
      · have H : Hid (wErr (items false body (32 - depth)).2 = wErr (val r (32 - depth)).err ∧ (items false body (32 - depth)).2 ≠ 0) := Lib.hid (by
          have h1 := HI.out
          rw [items_err false (room := 32 - depth) hz rfl he] at h1
          simp only [behindKey_false] at h1
          rw [← h1.1]
          exact ⟨rfl, he⟩)
        clear HI hok
        have t0 : ((val r (32 - depth)).err != 0) = true := by simpa using he
        rcases wErr_cases (val r (32 - depth)).err with ⟨w1, w2'⟩ | ⟨w1, w2'⟩
        · rw [w2'] at H
          rw [w1]
          clear he w1 w2' t0
          go_wp2
          go_ret2
          exact ⟨0, by rw [H.out.1]; rfl, fun h => absurd h H.out.2, hbr2⟩
        · rw [w2'] at H
          have t2 : ((val r (32 - depth)).err == 2) = false := by simpa using w1
          generalize (val r (32 - depth)).err = x at t0 t2 H ⊢
          clear he w1 w2'
          go_wp2
          go_ret2
          exact ⟨0, by rw [H.out.1]; rfl, fun h => absurd h H.out.2, hbr2⟩

set_option maxRecDepth 100000 in
set_option maxHeartbeats 2000000 in
theorem rtab_of (n : Nat) (hv : RVal n) : RRow true n := by
  intro body depth w hn hs h0 h32
  have hstart := deepest_nonneg (items true body (32 - depth)).1
  go_enter Tryd.func44, Tryd.ntmps44
  go_wp2
  go_loopw [0, 8] (fun b d wr => ∃ (r : ByteArray) (k : Int), b = .string r ∧ d = .int .i64 k ∧ r.size ≤ body.size ∧ depth ≤ k ∧ k ≤ 32 ∧ Hid ((items true r (32 - depth)).2 = (items true body (32 - depth)).2 ∧ max k (depth + deepest (items true r (32 - depth)).1) = depth + deepest (items true body (32 - depth)).1) ∧ Below w.heap.size w wr) (fun b _ _ => tabLen b)
  case atStart => exact ⟨body, depth, rfl, rfl, Nat.le_refl _, by omega, by omega, Lib.hid ⟨rfl, by omega⟩, Below.refl _ _⟩
  case round =>
    obtain ⟨r, k, rfl, rfl, hr1, hk0, hk1, HI, hbr⟩ := hrel
    by_cases hz : r.size = 0
    · have H : Hid (wErr (items true body (32 - depth)).2 = 0 ∧ k = depth + deepest (items true body (32 - depth)).1) := Lib.hid (by
        have h := HI.out
        rw [items_nil true _ hz] at h
        rw [← h.1, ← h.2]
        refine ⟨rfl, ?_⟩
        simp [deepest]; omega)
      clear HI
      go_wp2
      go_ret2
      exact ⟨k, by rw [H.out.1]; rfl, fun _ => H.out.2, hbr⟩
    · have hpos : 0 < r.size := by omega
      have hle := ttR_le 1 r
      go_wp2_with fail
      refine (rtakeShort_any r wr (by omega)).mono ?_
      rintro e w1 ⟨rfl, hb1⟩
      have hbr1 := hbr.trans (hb1.mono hbr.size)
      clear hb1 hbr
      rcases Bool.eq_false_or_eq_true (ttOk 1 r) with hk | hk
      rotate_left
      · have H : Hid (wErr (items true body (32 - depth)).2 = 3 ∧ (items true body (32 - depth)).2 ≠ 0) := Lib.hid (by
          have h1 := HI.out
          rw [items_key r (32 - depth) hz hk, ttE_one hk] at h1
          rw [← h1.1]
          exact ⟨rfl, by decide⟩)
        rw [ttE_one hk]
        clear HI hk
        generalize ttA 1 r = a
        generalize ttR 1 r = b
        go_wp2
        go_ret2
        exact ⟨0, by rw [H.out.1]; rfl, fun h => absurd h H.out.2, hbr1⟩
      · rw [ttE_of hk]
        have HGo := Lib.hid (fun he => items_go true (b := r) (room := 32 - depth) hz (by simp [hk]) he)
        have HEr := Lib.hid (fun he => items_err true (b := r) (room := 32 - depth) hz (by simp [hk]) he)
        rw [behindKey_true] at HGo HEr
        clear hk
        generalize ttA 1 r = a
        generalize ttR 1 r = b at hle HGo HEr ⊢
        go_wp2_with fail
        refine (hv b depth w1 (by omega) (by omega) h0 h32).mono ?_
        rintro e w2 ⟨y, d, rfl, hok, hb2⟩
        have hbr2 := hbr1.trans (hb2.mono hbr1.size)
        obtain ⟨d0, d1⟩ := val_deep_le (s := b) (room := 32 - depth) (by omega)
        clear hbr1 hb2
        by_cases he : (val b (32 - depth)).err = 0
        · obtain ⟨rfl, rfl⟩ := hok he
          have hlt := val_rest he
          have HX : Hid ((items true (val b (32 - depth)).rest (32 - depth)).2 = (items true body (32 - depth)).2 ∧ max (max k (depth + (val b (32 - depth)).deep)) (depth + deepest (items true (val b (32 - depth)).rest (32 - depth)).1) = depth + deepest (items true body (32 - depth)).1) := Lib.hid (by
            have h1 := HI.out
            rw [HGo.out he] at h1
            simp only [deepest] at h1
            exact ⟨h1.1, by omega⟩)
          rw [he]
          clear HI hok he HGo HEr
          generalize (val b (32 - depth)).deep = x at d0 d1 HX ⊢
          generalize (val b (32 - depth)).rest = y at hlt HX ⊢
          by_cases hm : k < depth + x
          · have em : max k (depth + x) = depth + x := by omega
            rw [em] at HX
            go_wp2
            go_roundw
            case rel => exact ⟨y, _, rfl, rfl, by omega, by omega, by omega, HX, hbr2⟩
            case measure => simp only [tabLen]; omega
          · have em : max k (depth + x) = k := by omega
            rw [em] at HX
            go_wp2
            go_roundw
            case rel => exact ⟨y, _, rfl, rfl, by omega, by omega, by omega, HX, hbr2⟩
            case measure => simp only [tabLen]; omega
        · have H : Hid (wErr (items true body (32 - depth)).2 = wErr (val b (32 - depth)).err ∧ (items true body (32 - depth)).2 ≠ 0) := Lib.hid (by
            have h1 := HI.out
            rw [HEr.out he] at h1
            rw [← h1.1]
            exact ⟨rfl, he⟩)
          clear HI hok HGo HEr
          have t0 : ((val b (32 - depth)).err != 0) = true := by simpa using he
          rcases wErr_cases (val b (32 - depth)).err with ⟨w1', w2'⟩ | ⟨w1', w2'⟩
          · rw [w2'] at H
            rw [w1']
            clear he w1' w2' t0
            go_wp2
            go_ret2
            exact ⟨0, by rw [H.out.1]; rfl, fun h => absurd h H.out.2, hbr2⟩
          · rw [w2'] at H
            have t2 : ((val b (32 - depth)).err == 2) = false := by simpa using w1'
            generalize (val b (32 - depth)).err = x at t0 t2 H ⊢
            clear he w1' w2'
            go_wp2
            go_ret2
            exact ⟨0, by rw [H.out.1]; rfl, fun h => absurd h H.out.2, hbr2⟩
end Go.Proofs.YtdgpemkoicoheaaDoor
