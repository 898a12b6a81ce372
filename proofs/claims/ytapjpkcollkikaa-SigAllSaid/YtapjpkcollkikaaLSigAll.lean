/-
  SigAll answers true, whatever the class and id; nothing that was there is changed. No condition.
-/
import Derived.Deep.RegionHeld3
import Derived.Test.YtapjpkcollkikaaWSigAll
import Derived.Test.YtapjpkcollkikaaRSigAll
import Derived.Test.YtapjpkcollkikaaWSigShown
namespace Go.Proofs.Ytapjpkcollkikaa
open Go.RowKit Go.Maps Go.Shelf

def atK (k : Nat) : Met := mets.getD k noMet
theorem mms_at (k : Nat) (h : k < mms.length) : mms[k].1 = atK k := by
  have hk : k < mets.length := by rw [mets_length]; rw [mms_length] at h; exact h
  rw [atK, List.getD_eq_getElem?_getD, List.getElem?_eq_getElem hk]
  simp [mms]
theorem atK_mem (k : Nat) (h : k < 58) : atK k ∈ mets := by
  have hk : k < mets.length := by rw [mets_length]; exact h
  rw [atK, List.getD_eq_getElem?_getD, List.getElem?_eq_getElem hk]
  exact List.getElem_mem hk
theorem atK_rises : ∀ k, k < 57 → ((atK (k + 1)).c < (atK k).c) = False ∧ ((atK k).c = (atK (k + 1)).c → (atK k).i < (atK (k + 1)).i) := by
  have h : ∀ k, k < 57 → ¬ ((atK (k + 1)).c < (atK k).c) ∧ ((atK k).c = (atK (k + 1)).c → (atK k).i < (atK (k + 1)).i) := by decide +kernel
  exact fun k hk => ⟨eq_false (h k hk).1, (h k hk).2⟩
theorem there (m : Met) (h : m ∈ mets) : sIs m.c m.i = true := by
  rw [sIs, List.any_eq_true]
  exact ⟨m, h, by simp [isAt]⟩
/-- the two cells of the row k -/
theorem at_cells (l : List MM) : ∀ (k : Nat) (h : k < l.length), (rowAt l)[k * 2]? = some (.int .i64 l[k].1.c) ∧ (rowAt l)[k * 2 + 1]? = some (.int .i64 l[k].1.i) := by
  induction l with
  | nil => intro k h; cases h
  | cons f l ih =>
    intro k h
    have e : rowAt (f :: l) = [.int .i64 f.1.c, .int .i64 f.1.i] ++ rowAt l := by simp [rowAt]
    cases k with
    | zero => rw [e]; simp
    | succ k =>
      obtain ⟨h1, h2⟩ := ih k (by simpa using h)
      rw [e]
      refine ⟨?_, ?_⟩
      · rw [show (k + 1) * 2 = k * 2 + 1 + 1 by omega]
        simpa using h1
      · rw [show (k + 1) * 2 + 1 = (k * 2 + 1) + 1 + 1 by omega]
        simpa using h2
theorem vals_at {w : World} {A : Option Addr} (h : ValsAt w A (rowAt mms)) (hl : (rowAt mms).length = 58 * 2) : ∃ b off, A = some ⟨b, off, none⟩ ∧ ∀ w', Below w.heap.size w w' → ∀ k, k < 58 →
    w'.cell? ⟨b, off + k * 2, none⟩ = some (.int .i64 (atK k).c) ∧ w'.cell? ⟨b, off + k * 2 + 1, none⟩ = some (.int .i64 (atK k).i) := by
  obtain ⟨b, off, hA, hlt, hc⟩ := h (by omega)
  refine ⟨b, off, hA, fun w' hb k hk => ?_⟩
  have hkm : k < mms.length := by rw [mms_length]; exact hk
  obtain ⟨h1, h2⟩ := at_cells mms k hkm
  rw [mms_at k hkm] at h1 h2
  have g : ∀ i v, (rowAt mms)[i]? = some v → w'.cell? ⟨b, off + i, none⟩ = some v := fun i v hv => by
    obtain ⟨hi, he⟩ := List.getElem?_eq_some_iff.1 hv
    rw [hb.cell (p := ⟨b, off + i, none⟩) hlt, hc i hi, he]
  exact ⟨g _ _ h1, g _ _ h2⟩
def anyTo (c i : Int) (k : Nat) : Bool := (mets.take k).any (isAt c i)
theorem anyTo_succ (c i : Int) (k : Nat) (h : k < 58) : anyTo c i (k + 1) = (anyTo c i k || ((atK k).c == c && (atK k).i == i)) := by
  have hk : k < mets.length := by rw [mets_length]; exact h
  rw [anyTo, anyTo, List.take_add_one, List.getElem?_eq_getElem hk, List.any_append, atK, List.getD_eq_getElem?_getD, List.getElem?_eq_getElem hk]
  simp [isAt]
theorem anyTo_all (c i : Int) : anyTo c i 58 = sIs c i := by
  rw [anyTo, List.take_of_length_le (by rw [mets_length]; omega), sIs]

set_option maxRecDepth 100000 in
set_option maxHeartbeats 4000000 in
theorem sigAll_walk (c i : Int) (w : World) :
    Calls Try.prog 3 #[.int .i64 c, .int .i64 i] w fun e w' => e = .returned (.bool true) ∧ Below w.heap.size w w' := by
  go_enter Try.func3, Try.ntmps3
  go_wp2_with fail
  refine (sigShown_any w).mono ?_
  rintro e w1 ⟨rfl, hb1⟩
  go_wp2_with fail
  refine (sall_any w1).mono ?_
  rintro e w2 ⟨v, rfl, hown, hq⟩
  have hb2 := hb1.trans (hq.mono hb1.size)
  obtain ⟨A, ca, rfl, hA, hl⟩ := vals_row hown
  obtain ⟨b, off, rfl, hc⟩ := vals_at hA hl
  have hbs := hb2.size
  clear hb1 hq hown hA hl
  go_wp2
  go_loopw [7, 8] (fun z x wr => ∃ k : Nat, k ≤ 58 ∧ x = .int .i64 k ∧ (∃ y, z = .bool y ∧ Hid (y = anyTo c i k)) ∧ Below w2.heap.size w2 wr) (fun _ x _ => 58 - (intOf x).toNat)
  case atStart => exact ⟨0, Nat.zero_le _, rfl, ⟨false, rfl, Lib.hid rfl⟩, Below.refl _ _⟩
  case round =>
    obtain ⟨k, hk, rfl, ⟨y, rfl, HY⟩, hbr⟩ := hrel
    have hbrs := hbr.size
    by_cases hlt : k < 58
    · have hlti : (k : Int) < 58 := by omega
      have hlt0 : (0 : Int) ≤ (k : Int) := by omega
      have HS := Lib.hid (anyTo_succ c i k hlt)
      have hth := there (atK k) (atK_mem k hlt)
      have hO := of_any (atK k).c (atK k).i
      rw [hth] at hO
      have keep : ∀ w', Below wr.heap.size wr w' → w'.cell? ⟨b, off + k * 2, none⟩ = some (.int .i64 (atK k).c) ∧ w'.cell? ⟨b, off + k * 2 + 1, none⟩ = some (.int .i64 (atK k).i) := fun w' h => hc w' (hbr.trans (h.mono hbrs)) k hlt
      obtain ⟨x0, x1⟩ := keep wr (Below.refl _ _)
      have HR : Hid (∀ p, p + 1 = k → ((atK k).c < (atK p).c) = False ∧ ((atK p).c = (atK k).c → (atK p).i < (atK k).i)) := Lib.hid (fun p hp => by subst hp; exact atK_rises p (by omega))
      have HC := Lib.hid hc
      clear hc hth
      generalize hck : (atK k).c = ck at HS hO keep x0 HR
      generalize hik : (atK k).i = ik at HS hO keep x1 HR
      clear hck hik
      generalize sOf ck ik = so at hO
      go_wp2
      go_region_held3 (fun w' => w'.cell? ⟨b, off + k * 2, none⟩ = some (.int .i64 ck) ∧ w'.cell? ⟨b, off + k * 2 + 1, none⟩ = some (.int .i64 ik)) (first | go_keep | (exact keep _ ⟨hq.os, hq.tape, hq.output, hq.size, hq.block⟩)) (first | (go_at_call 8; refine (hO _).mono ?_; rintro e w3 ⟨rfl, hq⟩))
      rename_i hHeld
      obtain ⟨y0, y1⟩ := hHeld
      have hf : Below wr.heap.size wr w3 := ⟨hq.os, hq.tape, hq.output, hq.size, hq.block⟩
      have hb3 := hbr.trans (hf.mono hbrs)
      have e1 : IntKind.i64.wrap ((k : Int) + 1) = ((k + 1 : Nat) : Int) := by simp only [IntKind.wrap_i64]; omega
      clear x0 x1 keep hO hq hf
      rcases Nat.eq_zero_or_pos k with hz | hz
      · have t1 : decide (0 < k) = false := by simp; omega
        have t2 : ¬ ((0 : Int) < (k : Int)) := by omega
        clear HC HR hz
        go_wp2
        go_quiet (fail)
        cases y
        · cases t3 : (ck == c)
          · have HS2 : Hid (false = anyTo c i (k + 1)) := Lib.hid (by rw [HS.out, ← HY.out, t3]; rfl)
            clear HS HY
            go_wp2
            exact ⟨⟨k + 1, hlt, rfl, ⟨_, rfl, HS2⟩, below_drewN hb3 _⟩, by simp only [intOf]; omega⟩
          · have HS2 : Hid ((ik == i) = anyTo c i (k + 1)) := Lib.hid (by rw [HS.out, ← HY.out, t3]; rfl)
            clear HS HY
            go_wp2
            exact ⟨⟨k + 1, hlt, rfl, ⟨_, rfl, HS2⟩, below_drewN hb3 _⟩, by simp only [intOf]; omega⟩
        · have HS2 : Hid (true = anyTo c i (k + 1)) := Lib.hid (by rw [HS.out, ← HY.out]; rfl)
          clear HS HY
          go_wp2
          exact ⟨⟨k + 1, hlt, rfl, ⟨_, rfl, HS2⟩, below_drewN hb3 _⟩, by simp only [intOf]; omega⟩
      · obtain ⟨p, hp⟩ : ∃ p, p + 1 = k := ⟨k - 1, by omega⟩
        obtain ⟨r1, r2⟩ := HR.out p hp
        obtain ⟨z0, z1⟩ := HC.out w3 hb3 p (by omega)
        have e2 : IntKind.i64.wrap ((k : Int) - 1) = (p : Int) := by simp only [IntKind.wrap_i64]; omega
        have t1 : decide (0 < k) = true := by simp; omega
        have t2 : (0 : Int) < (k : Int) := by omega
        have p1 : (p : Int) < 58 := by omega
        have p2 : (0 : Int) ≤ (p : Int) := by omega
        have p3 : p < 58 := by omega
        clear HC HR hz hp
        generalize (atK p).c = cp at r1 r2 z0
        generalize (atK p).i = ip at r2 z1
        have q1 : decide (ck < cp) = false := by simp [r1]
        have q2 : ¬ (ck < cp) := by rw [r1]; exact fun h => h
        clear r1
        cases t5 : (cp == ck)
        · clear r2
          go_wp2
          go_quiet (fail)
          cases y
          · cases t3 : (ck == c)
            · have HS2 : Hid (false = anyTo c i (k + 1)) := Lib.hid (by rw [HS.out, ← HY.out, t3]; rfl)
              clear HS HY
              go_wp2
              exact ⟨⟨k + 1, hlt, rfl, ⟨_, rfl, HS2⟩, below_drewN hb3 _⟩, by simp only [intOf]; omega⟩
            · have HS2 : Hid ((ik == i) = anyTo c i (k + 1)) := Lib.hid (by rw [HS.out, ← HY.out, t3]; rfl)
              clear HS HY
              go_wp2
              exact ⟨⟨k + 1, hlt, rfl, ⟨_, rfl, HS2⟩, below_drewN hb3 _⟩, by simp only [intOf]; omega⟩
          · have HS2 : Hid (true = anyTo c i (k + 1)) := Lib.hid (by rw [HS.out, ← HY.out]; rfl)
            clear HS HY
            go_wp2
            exact ⟨⟨k + 1, hlt, rfl, ⟨_, rfl, HS2⟩, below_drewN hb3 _⟩, by simp only [intOf]; omega⟩
        · have q3 : ip < ik := r2 (by simpa using t5)
          have q4 : decide (ik ≤ ip) = false := by simp; omega
          have q5 : ¬ (ik ≤ ip) := by omega
          clear r2 q3
          go_wp2
          go_quiet (fail)
          cases y
          · cases t3 : (ck == c)
            · have HS2 : Hid (false = anyTo c i (k + 1)) := Lib.hid (by rw [HS.out, ← HY.out, t3]; rfl)
              clear HS HY
              go_wp2
              exact ⟨⟨k + 1, hlt, rfl, ⟨_, rfl, HS2⟩, below_drewN hb3 _⟩, by simp only [intOf]; omega⟩
            · have HS2 : Hid ((ik == i) = anyTo c i (k + 1)) := Lib.hid (by rw [HS.out, ← HY.out, t3]; rfl)
              clear HS HY
              go_wp2
              exact ⟨⟨k + 1, hlt, rfl, ⟨_, rfl, HS2⟩, below_drewN hb3 _⟩, by simp only [intOf]; omega⟩
          · have HS2 : Hid (true = anyTo c i (k + 1)) := Lib.hid (by rw [HS.out, ← HY.out]; rfl)
            clear HS HY
            go_wp2
            exact ⟨⟨k + 1, hlt, rfl, ⟨_, rfl, HS2⟩, below_drewN hb3 _⟩, by simp only [intOf]; omega⟩
    · obtain rfl : k = 58 := by omega
      obtain rfl : y = sIs c i := by rw [HY.out, anyTo_all]
      have hb3 := hb2.trans (hbr.mono hbs)
      have hO := of_any c i wr
      clear HY hc hbr hbrs
      generalize sIs c i = q at hO ⊢
      generalize sOf c i = so at hO
      go_wp2_with fail
      refine hO.mono ?_
      rintro e w3 ⟨rfl, hq⟩
      have hb4 := hb3.trans (hq.mono hb3.size)
      clear hO hb3 hq
      go_wp2_with fail
      refine (rall_any w3).mono ?_
      rintro e w4 ⟨v, rfl, hown, hq⟩
      have hb5 := hb4.trans (hq.mono hb4.size)
      obtain ⟨A, ca, rfl, -, -⟩ := vals_row hown
      clear hb4 hq hown
      go_wp2
      go_ret
      exact ⟨rfl, hb5⟩
end Go.Proofs.Ytapjpkcollkikaa
