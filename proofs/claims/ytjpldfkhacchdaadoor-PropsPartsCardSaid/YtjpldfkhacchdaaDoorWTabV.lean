/-
  The closures of a value and of a table answer as PTab says, for every text of fewer than 2^62 bytes: by induction on its size.
-/
import Derived.Test.YtjpldfkhacchdaaDoorWTabT
namespace Go.Proofs.YtjpldfkhacchdaaDoor
open Go.RowKit Go.Maps

theorem takeV_one {s : ByteArray} (h : takeOk s 1 = true) : takeV s 1 < 256 := by
  have := takeV_pow h
  have h0 := takeV_nonneg s 1
  simp at this
  omega
theorem wf_u8 {c : Int} (h0 : 0 ≤ c) (h1 : c < 256) : (Lit.int .u8 c).wf = true := by
  simp [Lit.wf]
  rw [show IntKind.u8.min = 0 from by decide, show IntKind.u8.max = 255 from by decide]
  omega
theorem kindV_le (c : Int) : kindV c ≤ 8 := by
  unfold kindV
  repeat' split
  all_goals omega

set_option maxRecDepth 100000 in
set_option maxHeartbeats 1000000 in
theorem valC_all : ∀ n : Nat, ValC n := by
  intro n
  induction n with
  | zero =>
    intro s room w M B hn hs h0 h32 tk
    have hk : takeOk s 1 = false := by simp [takeOk, isW]; omega
    have H := Lib.hid (val_more room hk)
    obtain ⟨t1, -⟩ := takeE_not hk
    have HE := Lib.hid (takeE_one hk)
    go_enter Tryd.func85, Tryd.ntmps85
    go_wp2_with fail
    refine (take_any s 1 w tk.wid).mono ?_
    rintro e w1 ⟨rfl, hb⟩
    clear hk
    generalize takeV s 1 = a
    generalize takeR s 1 = b
    generalize takeE s 1 = x at t1 HE ⊢
    go_wp2
    go_ret3
    exact ⟨by rw [H.out, HE.out]; rfl, hb⟩
  | succ n ih =>
    intro s room w M B hn hs h0 h32 tk
    go_enter Tryd.func85, Tryd.ntmps85
    go_wp2_with fail
    refine (take_any s 1 w tk.wid).mono ?_
    rintro e w1 ⟨rfl, hb⟩
    have tk1 := tk.below hb
    rcases Bool.eq_false_or_eq_true (takeOk s 1) with hk | hk
    rotate_left
    · have H := Lib.hid (val_more room hk)
      obtain ⟨t1, -⟩ := takeE_not hk
      have HE := Lib.hid (takeE_one hk)
      clear hk
      generalize takeV s 1 = a
      generalize takeR s 1 = b
      generalize takeE s 1 = x at t1 HE ⊢
      go_wp2
      go_ret3
      exact ⟨by rw [H.out, HE.out]; rfl, hb⟩
    · rw [takeE_of hk]
      have hsz := takeR_size hk
      have v0 := takeV_nonneg s 1
      have v1 := takeV_one hk
      have HN := Lib.hid (fun h => val_none room hk h)
      have HF := Lib.hid (fun h => val_flat room hk h)
      have HT := Lib.hid (fun h => val_nest room hk h)
      clear hk
      generalize takeV s 1 = c at v0 v1 HN HF HT ⊢
      generalize takeR s 1 = b at hsz HF HT ⊢
      obtain ⟨ka, kh⟩ := kinds_at c v0 v1
      have cm := tk1.bm.cell
      have hlook := tk1.map.look_ok (t := 131) (e := 3) (z := .int .i64 0) lawByte Tryd.underlying131 (zeroInt w1) (plainElem_int Tryd.underlying3 (by decide)) (keyOf_int_mk (q := .u8) (a := c) Tryd.underlying5 (wf_u8 v0 v1))
      rw [ka, kh] at hlook
      have hrun : (Instr.lookup 131 (.map (some M)) (.int .u8 c) true).run Tryd.prog w1 = .ok (.tuple #[.int .i64 (kindN c), .bool (decide (kindV c ≠ -4))]) w1 := by
        obtain ⟨v, ps, h1, h2⟩ := hlook
        obtain ⟨a, rfl, h3, -⟩ := plainElem_int_inv Tryd.underlying3 h2
        cases h3
        exact h1
      have k8 := kindV_le c
      clear hlook ka kh
      rcases kindV_cases c with hk | hk | hk | hk | hk
      · have H := Lib.hid (HN.out hk)
        rw [kindN, if_pos hk, hk] at hrun
        clear HN HF HT hk
        go_wp2
        go_ret3
        exact ⟨by rw [H.out]; rfl, hb⟩
      · have H := Lib.hid (HT.out (.inr hk))
        rw [kindN, if_neg (by omega), hk] at hrun
        rw [hk] at H
        clear HN HF HT hk k8
        have cb := tk1.bt.cell
        go_wp2_with fail
        refine (table_of n ih b room w1 M B (by omega) (by omega) h0 h32 tk1).mono ?_
        rintro e w2 ⟨rfl, hb2⟩
        have H2 : Hid (val s room = nest true b room) := H
        clear H
        generalize nest true b room = r at H2 ⊢
        obtain ⟨d, y, x⟩ := r
        go_wp2
        go_ret3
        exact ⟨by rw [H2.out]; rfl, hb.trans (hb2.mono hb.size)⟩
      · have H := Lib.hid (HT.out (.inl hk))
        rw [kindN, if_neg (by omega), hk] at hrun
        rw [hk] at H
        clear HN HF HT hk k8
        have cb := tk1.br.cell
        go_wp2_with fail
        refine (row_of n ih b room w1 M B (by omega) (by omega) h0 h32 tk1).mono ?_
        rintro e w2 ⟨rfl, hb2⟩
        have H2 : Hid (val s room = nest false b room) := H
        clear H
        generalize nest false b room = r at H2 ⊢
        obtain ⟨d, y, x⟩ := r
        go_wp2
        go_ret3
        exact ⟨by rw [H2.out]; rfl, hb.trans (hb2.mono hb.size)⟩
      · have H := Lib.hid (HF.out (.inl hk))
        rw [kindN, if_neg (by omega), hk] at hrun
        rw [hk] at H
        clear HN HF HT hk k8
        go_wp2_with fail
        refine (flat_any b (-1) w1 tk1.wid (by omega) (.inl rfl)).mono ?_
        rintro e w2 ⟨rfl, hb2⟩
        generalize flat b (-1) = r at H ⊢
        obtain ⟨d, y, x⟩ := r
        go_wp2
        go_ret3
        exact ⟨by rw [H.out]; rfl, hb.trans (hb2.mono hb.size)⟩
      · have H := Lib.hid (HF.out (.inr hk))
        have hne : kindV c ≠ -4 := by omega
        rw [kindN, if_neg (by omega), decide_eq_true hne] at hrun
        clear HN HF HT hne
        generalize kindV c = k at hrun H hk k8
        have t2 : (k == -2) = false := by rw [beq_eq_false_iff_ne]; omega
        have t3 : (k == -3) = false := by rw [beq_eq_false_iff_ne]; omega
        go_wp2_with fail
        refine (flat_any b k w1 tk1.wid (by omega) (.inr ⟨hk, k8⟩)).mono ?_
        rintro e w2 ⟨rfl, hb2⟩
        generalize flat b k = r at H ⊢
        obtain ⟨d, y, x⟩ := r
        go_wp2
        go_ret3
        exact ⟨by rw [H.out]; rfl, hb.trans (hb2.mono hb.size)⟩
theorem value_any (s : ByteArray) (room : Int) (w : World) (M B : Nat) (hs : s.size < 4611686018427387904) (h0 : 0 ≤ room) (h32 : room ≤ 32) (tk : Tk w M B) :
    Calls Tryd.prog 85 #[.string s, .int .i64 room, .pointer (some ⟨B, 0, none⟩), .pointer (some ⟨B + 2, 0, none⟩), .pointer (some ⟨B + 3, 0, none⟩)] w fun e w' => e = .returned (.tuple #[.int .i64 (val s room).deep, .string (val s room).rest, .int .i64 (val s room).err]) ∧ Below w.heap.size w w' :=
  valC_all s.size s room w M B (Nat.le_refl _) hs h0 h32 tk
theorem table_any (t : ByteArray) (room : Int) (w : World) (M B : Nat) (hs : t.size < 4611686018427387904) (h0 : 0 ≤ room) (h32 : room ≤ 32) (tk : Tk w M B) :
    Calls Tryd.prog 83 #[.string t, .int .i64 room, .pointer (some ⟨B + 1, 0, none⟩)] w fun e w' => e = .returned (.tuple #[.int .i64 (nest true t room).deep, .string (nest true t room).rest, .int .i64 (nest true t room).err]) ∧ Below w.heap.size w w' :=
  table_of t.size (valC_all _) t room w M B (Nat.le_refl _) hs h0 h32 tk
end Go.Proofs.YtjpldfkhacchdaaDoor
