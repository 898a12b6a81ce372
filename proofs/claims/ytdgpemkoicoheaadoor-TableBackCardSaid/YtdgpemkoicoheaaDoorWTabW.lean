/-
  table.whole and Deep: the fields of a table with nothing behind it, as an iterator over boxes of its own. Conditions: the package num's table of widths holds 1, 2, 4, 8; texts of fewer than 2^62 bytes.
-/
import Derived.Test.YtdgpemkoicoheaaDoorWTabP
namespace Go.Proofs.YtdgpemkoicoheaaDoor
open Go.RowKit Go.Maps

/-- an iterator over the fields of a body lies in boxes from S on -/
structure Fs (w : World) (M B S : Nat) (body : ByteArray) : Prop where
  tk : Tk w M B
  bs : Boxed w S 9 (.string body)
  br : Boxed w (S + 1) 3 (.int .i64 31)
  bf : Boxed w (S + 1 + 1) 49 (.func (.func 39) #[] #[.pointer (some ⟨B, 0, none⟩), .pointer (some ⟨B + 2, 0, none⟩), .pointer (some ⟨B + 3, 0, none⟩)])

theorem whole_bad (t : ByteArray) (w : World) (hw : Wid w) (hs : t.size < 4611686018427387904) (hx : aloneE (nest true t 32) ≠ 0) :
    Calls Tryd.prog 27 #[.string t] w fun e w' => e = .returned (.tuple #[.nilFunc, .int .i64 0, .int .i64 (aloneE (nest true t 32))]) ∧ Below w.heap.size w w' := by
  go_enter Tryd.func27, Tryd.ntmps27
  go_wp2_with fail
  refine (takers_any w hw).mono ?_
  rintro e w1 ⟨M, B, rfl, tk, hb⟩
  go_wp2_with fail
  refine (alone_tab t w1 M B hs tk).mono ?_
  rintro e w2 ⟨rfl, hb2⟩
  generalize h1 : aloneD (nest true t 32) = d
  generalize h2 : aloneE (nest true t 32) = x at hx ⊢
  have H := Lib.hid h2
  have t1 : (x != 0) = true := by simpa using hx
  clear h1 h2 hx
  go_wp2
  go_ret3
  refine ⟨?_, hb.trans (hb2.mono hb.size)⟩
  rw [H.out]
  rfl
theorem whole_ok (t : ByteArray) (w : World) (hw : Wid w) (hs : t.size < 4611686018427387904) (hx : aloneE (nest true t 32) = 0) :
    Calls Tryd.prog 27 #[.string t] w fun e w' => ∃ M B S, e = .returned (.tuple #[.func (.func 52) #[] #[.pointer (some ⟨S, 0, none⟩), .pointer (some ⟨S + 1, 0, none⟩), .pointer (some ⟨S + 1 + 1, 0, none⟩)], .int .i64 (aloneD (nest true t 32)), .int .i64 0]) ∧ Fs w' M B S (ttA 4 t) ∧ Below w.heap.size w w' := by
  obtain ⟨hok, -, -, -⟩ := alone_enter hx
  obtain ⟨e1, e2, e3, -, -⟩ := enOk_of hok
  go_enter Tryd.func27, Tryd.ntmps27
  go_wp2_with fail
  refine (takers_any w hw).mono ?_
  rintro e w1 ⟨M, B, rfl, tk, hb⟩
  go_wp2_with fail
  refine (alone_tab t w1 M B hs tk).mono ?_
  rintro e w2 ⟨rfl, hb2⟩
  rw [hx]
  have hb3 := hb.trans (hb2.mono hb.size)
  have tk2 := tk.below hb2
  clear hb hb2 hok tk
  generalize h1 : aloneD (nest true t 32) = d
  have H := Lib.hid h1
  have E1 := Lib.hid (And.intro e1 (And.intro e2 e3))
  clear h1 e1 e2 e3 hx
  go_wp2_with fail
  refine (enter_any t 32 w2 tk2.wid hs).mono ?_
  rintro e w3 ⟨rfl, hb4⟩
  rw [E1.out.1, E1.out.2.1, E1.out.2.2]
  clear E1
  have hb5 := hb3.trans (hb4.mono hb3.size)
  have tk3 := tk2.below hb4
  clear hb3 hb4 tk2
  generalize hbo : ttA 4 t = body
  have HB := Lib.hid hbo
  clear hbo
  generalize ttR 4 t = rest
  go_wp2_with fail
  refine (callsIn_wide (n := 3)).1 ((fields_in _ _ _ _ _ _).mono ?_)
  rintro e w4 ⟨rfl, rfl⟩
  go_wp2
  go_ret3
  have hsz := hb5.size
  have k1 : Below w3.heap.size w3 (((w3.alloc (.cells #[.string body] 9)).alloc (.cells #[.int .i64 31] 3)).alloc (.cells #[.func (.func 39) #[] #[.pointer (some ⟨B, 0, none⟩), .pointer (some ⟨B + 2, 0, none⟩), .pointer (some ⟨B + 3, 0, none⟩)]] 49)) := (((Below.refl _ w3).alloc (Nat.le_refl _) _).alloc (by simp) _).alloc (by simp; omega) _
  refine ⟨M, B, w3.heap.size, by rw [H.out]; rfl, ?_, hb5.trans (k1.mono hsz)⟩
  rw [HB.out]
  refine ⟨tk3.below k1, ((Boxed.new w3 _ _).alloc _).alloc _, ?_, ?_⟩
  · have h := (Boxed.new (w3.alloc (.cells #[.string body] 9)) 3 (.int .i64 31)).alloc (.cells #[.func (.func 39) #[] #[.pointer (some ⟨B, 0, none⟩), .pointer (some ⟨B + 2, 0, none⟩), .pointer (some ⟨B + 3, 0, none⟩)]] 49)
    rw [World.size_alloc] at h
    exact h
  · have h := Boxed.new ((w3.alloc (.cells #[.string body] 9)).alloc (.cells #[.int .i64 31] 3)) 49 (.func (.func 39) #[] #[.pointer (some ⟨B, 0, none⟩), .pointer (some ⟨B + 2, 0, none⟩), .pointer (some ⟨B + 3, 0, none⟩)])
    rw [World.size_alloc, World.size_alloc] at h
    exact h

theorem aloneD_bad {r : Res} (h : aloneE r ≠ 0) : aloneD r = 0 := by
  unfold aloneE at h
  unfold aloneD
  by_cases hx : r.err = 0
  · rw [if_pos hx] at h
    by_cases hy : r.rest.size = 0
    · rw [if_pos hy] at h; exact absurd rfl h
    · rw [if_neg (by simp [hy])]
  · rw [if_neg (by simp [hx])]
theorem tabDeep_any (t : ByteArray) (w : World) (hw : Wid w) (hs : t.size < 4611686018427387904) :
    Calls Tryd.prog 17 #[.string t] w fun e w' => e = .returned (.tuple #[.int .i64 (aloneD (nest true t 32)), .int .i64 (aloneE (nest true t 32))]) ∧ Below w.heap.size w w' := by
  by_cases hx : aloneE (nest true t 32) = 0
  · have H := Lib.hid hx
    go_enter Tryd.func17, Tryd.ntmps17
    go_wp2_with fail
    refine (whole_ok t w hw hs hx).mono ?_
    rintro e w1 ⟨M, B, S, rfl, -, hb⟩
    clear hx
    generalize h1 : aloneD (nest true t 32) = d
    have H1 := Lib.hid h1
    clear h1
    go_wp2
    go_ret2
    refine ⟨?_, hb⟩
    rw [H.out, H1.out]
    rfl
  · have HD := Lib.hid (aloneD_bad hx)
    go_enter Tryd.func17, Tryd.ntmps17
    go_wp2_with fail
    refine (whole_bad t w hw hs hx).mono ?_
    rintro e w1 ⟨rfl, hb⟩
    clear hx
    generalize h1 : aloneE (nest true t 32) = x
    have H1 := Lib.hid h1
    clear h1
    go_wp2
    go_ret2
    refine ⟨?_, hb⟩
    rw [H1.out, HD.out]
    rfl

theorem items_length (room : Int) : ∀ (n : Nat) (b : ByteArray), b.size ≤ n → (items true b room).1.length ≤ b.size := by
  intro n
  induction n with
  | zero => intro b hb; rw [items_nil true room (by omega)]; exact Nat.zero_le _
  | succ n ih =>
    intro b hb
    by_cases h0 : b.size = 0
    · rw [items_nil true room h0]; exact Nat.zero_le _
    · rcases Bool.eq_false_or_eq_true (ttOk 1 b) with hk | hk
      · by_cases hv : (val (behindKey true b) room).err = 0
        · have h1 := val_rest hv
          have h2 := behindKey_le true b
          rw [items_go true h0 (by simp [hk]) hv]
          have := ih (val (behindKey true b) room).rest (by omega)
          simp only [List.length_cons]
          omega
        · rw [items_err true h0 (by simp [hk]) hv]; exact Nat.zero_le _
      · rw [items_key b room h0 hk]; exact Nat.zero_le _
theorem seqOf_items {b : ByteArray} {room : Int} (h : (items true b room).2 = 0) : seqOf b room = (items true b room).1.map (fun i => (i, (0 : Int))) := by
  rw [seqOf, if_pos h, List.append_nil]
theorem ttA_four_lt (t : ByteArray) : (ttA 4 t).size < 4294967296 := by
  rcases Bool.eq_false_or_eq_true (ttOk 4 t) with hk | hk
  · have h1 := ttA_size hk
    have h2 := takeV_pow (ttOk_parts hk).1
    simp at h2
    omega
  · unfold ttA
    split
    · rename_i h1
      have : skipOk (takeR t 4) (takeV t 4) = false := by simpa [ttOk, h1] using hk
      rw [skipA, if_neg (by simp [this])]
      decide
    · decide
end Go.Proofs.YtdgpemkoicoheaaDoor
