/-
  The closure of a row: if the closure of a value answers as PTab's val for every text that is shorter, that of a row answers as nest false.
-/
import Derived.WalkMore
import Derived.Test.YtjpldfkhacchdaaDoorWTabC
namespace Go.Proofs.YtjpldfkhacchdaaDoor
open Go.RowKit Go.Maps

/-- how long a text's value is -/
def tabLen : Value → Nat
  | .string s => s.size
  | _ => 0
/-- the closure of a value answers as it should, of texts of at most n bytes -/
def ValC (n : Nat) : Prop := ∀ (s : ByteArray) (room : Int) (w : World) (M B : Nat), s.size ≤ n → s.size < 4611686018427387904 → 0 ≤ room → room ≤ 32 → Tk w M B →
  Calls Tryd.prog 85 #[.string s, .int .i64 room, .pointer (some ⟨B, 0, none⟩), .pointer (some ⟨B + 2, 0, none⟩), .pointer (some ⟨B + 3, 0, none⟩)] w fun e w' => e = .returned (.tuple #[.int .i64 (val s room).deep, .string (val s room).rest, .int .i64 (val s room).err]) ∧ Below w.heap.size w w'

theorem enOk_of {t : ByteArray} {room : Int} (h : enOk t room = true) : enE t room = 0 ∧ enA t room = ttA 4 t ∧ enB t room = ttR 4 t ∧ ttOk 4 t = true ∧ 1 ≤ room := by
  have h' := h
  simp [enOk] at h'
  refine ⟨?_, by rw [enA, if_pos h], by rw [enB, if_pos h], h'.1, h'.2⟩
  rw [enE, if_pos h'.1, if_neg (by omega)]
theorem enOk_not {t : ByteArray} {room : Int} (h : enOk t room = false) : (enE t room != 0) = true ∧ ∀ kf, nest kf t room = ⟨0, ⟨#[]⟩, enE t room⟩ := by
  rcases Bool.eq_false_or_eq_true (ttOk 4 t) with hk | hk
  · have hr : room < 1 := by simp [enOk, hk] at h; omega
    have e : enE t room = 5 := by rw [enE, if_pos hk, if_pos hr]
    rw [e]
    refine ⟨rfl, fun kf => ?_⟩
    rw [nest, nestOf, if_pos hk, if_pos hr]
  · have e : enE t room = 2 := by rw [enE, if_neg (by simp [hk])]
    rw [e]
    refine ⟨rfl, fun kf => ?_⟩
    rw [nest, nestOf, if_neg (by simp [hk]), ttE_four hk]
theorem nest_ok {kf : Bool} {t : ByteArray} {room : Int} (h : enOk t room = true) (hi : (items kf (ttA 4 t) (room - 1)).2 = 0) : nest kf t room = ⟨deepest (items kf (ttA 4 t) (room - 1)).1 + 1, ttR 4 t, 0⟩ := by
  obtain ⟨-, -, -, h1, h2⟩ := enOk_of h
  rw [nest, nestOf, if_pos h1, if_neg (by omega), if_pos hi]
theorem nest_bad {kf : Bool} {t : ByteArray} {room : Int} (h : enOk t room = true) (hi : (items kf (ttA 4 t) (room - 1)).2 ≠ 0) : nest kf t room = ⟨0, ⟨#[]⟩, wErr (items kf (ttA 4 t) (room - 1)).2⟩ := by
  obtain ⟨-, -, -, h1, h2⟩ := enOk_of h
  rw [nest, nestOf, if_pos h1, if_neg (by omega), if_neg hi]
theorem val_deep_le {s : ByteArray} {room : Int} (h0 : 0 ≤ room) : 0 ≤ (val s room).deep ∧ (val s room).deep ≤ room := by
  by_cases h : (val s room).err = 0
  · obtain ⟨h1, h2, -⟩ := val_good s room h
    omega
  · rw [(val_deep_err h).1]
    omega
theorem behindKey_false (b : ByteArray) : behindKey false b = b := rfl
theorem behindKey_true (b : ByteArray) : behindKey true b = ttR 1 b := rfl
theorem ba_ne {r : ByteArray} (h : ¬ r.size = 0) : (r.toList == []) = false := by
  rw [Lib.toList_data, beq_eq_false_iff_ne]
  intro e
  have e := congrArg List.length e
  rw [ba_len] at e
  exact h e
theorem ba_nil {b : ByteArray} (h : b.size = 0) : b = ⟨#[]⟩ := by
  apply ba_ext
  have := ba_len b
  rw [h] at this
  exact List.eq_nil_of_length_eq_zero this

set_option maxRecDepth 100000 in
set_option maxHeartbeats 1000000 in
theorem row_of (n : Nat) (hv : ValC n) (t : ByteArray) (room : Int) (w : World) (M B : Nat) (hn : t.size ≤ n) (hs : t.size < 4611686018427387904) (h0 : 0 ≤ room) (h32 : room ≤ 32) (tk : Tk w M B) :
    Calls Tryd.prog 80 #[.string t, .int .i64 room, .pointer (some ⟨B + 1, 0, none⟩)] w fun e w' => e = .returned (.tuple #[.int .i64 (nest false t room).deep, .string (nest false t room).rest, .int .i64 (nest false t room).err]) ∧ Below w.heap.size w w' := by
  go_enter Tryd.func80, Tryd.ntmps80
  go_wp2_with fail
  go_step3
  go_wp2_with fail
  refine (enter_any t room w tk.wid hs).mono ?_
  rintro e w1 ⟨rfl, hb⟩
  cases hok : enOk t room
  · obtain ⟨t1, h2⟩ := enOk_not hok
    have H := Lib.hid (h2 false)
    clear hok h2
    generalize enA t room = a
    generalize enB t room = b
    generalize enE t room = x at t1 H ⊢
    go_wp2
    rw [Exit.noGoto_ret]
    go_ret3
    exact ⟨by rw [H.out]; rfl, hb⟩
  · obtain ⟨e1, e2, e3, -, hr⟩ := enOk_of hok
    have HG := Lib.hid (fun h => nest_ok (kf := false) hok h)
    have HB := Lib.hid (fun h => nest_bad (kf := false) hok h)
    have hle := ttA_le 4 t
    have tk1 := tk.below hb
    rw [e1, e2, e3]
    clear e1 e2 e3 hok
    generalize ttA 4 t = body at HG HB hle ⊢
    generalize ttR 4 t = rest at HG ⊢
    go_wp2
    go_step3
    go_wp2
    go_loopw [8, 11] (fun b d wr => ∃ (r : ByteArray) (k : Int), b = .string r ∧ d = .int .i64 k ∧ r.size ≤ body.size ∧ 0 ≤ k ∧ k ≤ 32 ∧ Hid ((items false r (room - 1)).2 = (items false body (room - 1)).2 ∧ max k (deepest (items false r (room - 1)).1) = deepest (items false body (room - 1)).1) ∧ Tk wr M B ∧ Below w.heap.size w wr) (fun b _ _ => tabLen b)
    case atStart =>
      refine ⟨body, 0, rfl, rfl, Nat.le_refl _, by omega, by omega, Lib.hid ⟨rfl, ?_⟩, tk1, hb⟩
      have := deepest_nonneg (items false body (room - 1)).1
      omega
    case round =>
      obtain ⟨r, k, rfl, rfl, hr1, hk0, hk1, HI, tkr, hbr⟩ := hrel
      by_cases hz : r.size = 0
      · obtain rfl := ba_nil hz
        have H := Lib.hid (show nest false t room = ⟨k + 1, rest, 0⟩ by
          have := HI.out
          rw [items_nil false (b := ⟨#[]⟩) _ rfl] at this
          rw [HG.out this.1.symm, ← this.2]
          congr 2
          simp [deepest]; omega)
        clear HI HG HB
        go_wp2
        rw [Exit.noGoto_ret]
        go_ret3
        exact ⟨by rw [H.out]; rfl, hbr⟩
      · have tne := ba_ne hz
        have hc := tkr.bv.cell
        go_wp2_with fail
        refine (hv r (room - 1) wr M B (by omega) (by omega) (by omega) (by omega) tkr).mono ?_
        rintro e w2 ⟨rfl, hb2⟩
        have hbr2 := hbr.trans (hb2.mono hbr.size)
        have tk2 := tkr.below hb2
        obtain ⟨d0, d1⟩ := val_deep_le (s := r) (room := room - 1) (by omega)
        by_cases he : (val r (room - 1)).err = 0
        · have hlt := val_rest he
          have HN := Lib.hid (items_go false (room := room - 1) hz rfl he)
          have t1 : ((val r (room - 1)).err == 0) = true := by rw [he]; rfl
          have HX : Hid ((items false (val r (room - 1)).rest (room - 1)).2 = (items false body (room - 1)).2 ∧ max (max k (val r (room - 1)).deep) (deepest (items false (val r (room - 1)).rest (room - 1)).1) = deepest (items false body (room - 1)).1) := Lib.hid (by
            have h1 := HI.out
            have h2 := HN.out
            simp only [behindKey_false] at h2
            rw [h2] at h1
            simp only [deepest] at h1
            exact ⟨h1.1, by omega⟩)
          clear HI HN HG HB he tkr hc
          generalize (val r (room - 1)).deep = x at d0 d1 HX ⊢
          generalize (val r (room - 1)).rest = y at hlt HX ⊢
          generalize (val r (room - 1)).err = z at t1 ⊢
          by_cases hm : x ≤ k
          · have em : max k x = k := by omega
            rw [em] at HX
            go_wp2
            go_roundw
            case rel => exact ⟨y, _, rfl, rfl, by omega, by omega, by omega, HX, tk2, hbr2⟩
            case measure => simp only [tabLen]; omega
          · have em : max k x = x := by omega
            rw [em] at HX
            go_wp2
            go_roundw
            case rel => exact ⟨y, _, rfl, rfl, by omega, by omega, by omega, HX, tk2, hbr2⟩
            case measure => simp only [tabLen]; omega
        · have H := Lib.hid (show nest false t room = ⟨0, ⟨#[]⟩, wErr (val r (room - 1)).err⟩ by
            have h1 := HI.out
            rw [items_err false (room := room - 1) hz rfl he] at h1
            simp only [behindKey_false] at h1
            rw [HB.out (by rw [← h1.1]; exact he), ← h1.1])
          have t1 : ((val r (room - 1)).err == 0) = false := by simpa using he
          clear HI HG HB he tkr hc
          generalize (val r (room - 1)).deep = x at d0 d1 ⊢
          generalize (val r (room - 1)).rest = y at ⊢
          generalize (val r (room - 1)).err = z at t1 H ⊢
          go_wp2_with fail
          refine (wErr_any z w2).mono ?_
          rintro e w3 ⟨rfl, rfl⟩
          generalize wErr z = u at H ⊢
          go_wp2
          rw [Exit.noGoto_ret]
          go_ret3
          exact ⟨by rw [H.out]; rfl, hbr2⟩
end Go.Proofs.YtjpldfkhacchdaaDoor
