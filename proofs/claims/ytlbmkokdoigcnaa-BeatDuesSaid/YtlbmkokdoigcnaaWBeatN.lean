/-
  beat.Next: the first one in order, if there is one. Nothing that was there is changed. Conditions: as at Set.
-/
import Derived.Laws.ResultCell
import Derived.Test.YtlbmkokdoigcnaaJMem
import Derived.Test.YtlbmkokdoigcnaaWBeatT
namespace Go.Proofs.Ytlbmkokdoigcnaa
open Go.RowKit Go.Shelf

/-- the first one -/
def firstF (l : List DP) : DP := (srt l).headD ⟨0, 0⟩
theorem first_min {l : List DP} (k : Nat) (hk : k < l.length) (h : ∀ j, j < l.length → ltD (atD l j) (atD l k) = false) : firstF l = atD l k := by
  have hp := srt_self l
  have hs := srt_sorted l
  cases hsl : srt l with
  | nil => rw [hsl] at hp; have := hp.length_eq; simp at this; omega
  | cons x t =>
    rw [firstF, hsl]
    show x = atD l k
    rw [hsl] at hp hs
    have hx : x ∈ l := hp.mem_iff.1 (by simp)
    obtain ⟨j, hj, hjx⟩ := atD_of_mem hx
    have h1 : ltD x (atD l k) = false := by rw [← hjx]; exact h j hj
    have h2 : ltD (atD l k) x = false := by
      have hm : atD l k ∈ x :: t := hp.mem_iff.2 (atD_mem hk)
      rcases List.mem_cons.1 hm with e | e
      · rw [e]; exact ltD_irr _
      · exact (List.pairwise_cons.1 hs).1 _ e
    exact ltD_anti h1 h2
theorem store2_of {W : World} {B : Nat} {t : TypeId} {a b : Value} (h : Bx W B t [a, b]) (a' b' : Value) :
    W.cell? ⟨B, 0, none⟩ = some a ∧ W.frozen? ⟨B, 0, none⟩ = false ∧
    (W.setCell ⟨B, 0, none⟩ a').cell? ⟨B, 1, none⟩ = some b ∧ (W.setCell ⟨B, 0, none⟩ a').frozen? ⟨B, 1, none⟩ = false ∧
    Bx ((W.setCell ⟨B, 0, none⟩ a').setCell ⟨B, 1, none⟩ b') B t [a', b'] :=
  ⟨h.cell 0 (by simp), h.frozen 0, (h.set 0 a').cell 1 (by simp), (h.set 0 a').frozen 1, (h.set 0 a').set 1 b'⟩
theorem first_le {l : List DP} {x : DP} (hx : x ∈ l) : ltD x (firstF l) = false := by
  have hp := srt_self l
  have hs := srt_sorted l
  cases hsl : srt l with
  | nil => rw [hsl] at hp; have := hp.mem_iff.2 hx; simp at this
  | cons y t =>
    rw [firstF, hsl]
    show ltD x y = false
    rw [hsl] at hp hs
    rcases List.mem_cons.1 (hp.mem_iff.2 hx) with e | e
    · rw [e]; exact ltD_irr _
    · exact (List.pairwise_cons.1 hs).1 _ e
theorem first_in {l : List DP} (h0 : 0 < l.length) : firstF l ∈ l := by
  have hp := srt_self l
  cases hsl : srt l with
  | nil => rw [hsl] at hp; have := hp.length_eq; simp at this; omega
  | cons y t =>
    rw [hsl] at hp
    rw [firstF, hsl]
    exact hp.mem_iff.1 (by simp)
theorem first_srt {l : List DP} (h0 : 0 < l.length) : ∃ t, srt l = firstF l :: t := by
  have hp := srt_self l
  cases hsl : srt l with
  | nil => rw [hsl] at hp; have := hp.length_eq; simp at this; omega
  | cons y t => exact ⟨t, by rw [firstF, hsl]; rfl⟩

set_option maxRecDepth 100000 in
set_option maxHeartbeats 4000000 in
theorem next_any (A : Option Addr) (cap : Nat) (l : List DP) (w : World) (hA : InD w A cap l) (hl : l.length < 4611686018427387904) :
    Calls Try.prog 13 #[.slice A l.length cap] w fun e w' => e = .returned (.tuple #[encD (firstF l), .bool (decide (0 < l.length))]) ∧ Below w.heap.size w w' := by
  have hmf : ∀ (p : Value) (w : World), (Instr.makeFunc (.func 30) #[p] #[]).run Try.prog w = .ok (.func (.func 30) #[p] #[]) w := fun _ _ => by kernel_rfl
  rcases Nat.eq_zero_or_pos l.length with h0 | h0
  · obtain rfl : l = [] := List.eq_nil_of_length_eq_zero h0
    go_enter Try.func13, Try.ntmps13
    go_wp2
    refine bodyPost_ret (v := .tuple #[.agg #[.int .i64 0, .int .i64 0], .bool false]) ?_ rfl ⟨rfl, (Below.refl _ w).alloc (Nat.le_refl _) _⟩
    rw [results_cell_tmp rfl]
    simp [asAddr, Result.andThen, go_sem]
  · obtain ⟨g, o, rfl, hgl, hcs⟩ := vals_d hA.1 h0
    obtain ⟨n, hn⟩ : ∃ n, n = l.length := ⟨_, rfl⟩
    have t9 : ((n : Int) == 0) = false := by rw [beq_eq_false_iff_ne]; omega
    have t8 : ¬ ((n : Int) = 0) := by omega
    have HD : Hid (decide (0 < l.length) = true) := Lib.hid (by simpa using h0)
    rw [HD.out]
    obtain ⟨D, hD⟩ : ∃ D, D = firstF l := ⟨_, rfl⟩
    rw [← hD, ← hn]
    have HF := Lib.hid hD
    have HN := Lib.hid hn
    have hb0 : Below w.heap.size w (w.alloc (.cells #[.int .i64 0, .int .i64 0] 24)) := (Below.refl _ w).alloc (Nat.le_refl _) _
    have HX : Hid (Bx (w.alloc (.cells #[.int .i64 0, .int .i64 0] 24)) w.heap.size 24 [.int .i64 0, .int .i64 0]) := Lib.hid (Bx.new w _ _)
    have hcs2 : ∀ k, k < n → ∀ w', Below w.heap.size w w' → w'.cell? ⟨g, o + k * 2, none⟩ = some (.int .i64 (atD l k).a) ∧ w'.cell? ⟨g, o + k * 2 + 1, none⟩ = some (.int .i64 (atD l k).i) := fun k hk w' h => by
      obtain ⟨a1, a2⟩ := hcs k (by omega)
      exact ⟨(h.cell (p := ⟨g, o + k * 2, none⟩) hgl).trans a1, (h.cell (p := ⟨g, o + k * 2 + 1, none⟩) hgl).trans a2⟩
    have HCs := Lib.hid hcs2
    have h0n : 0 < n := by omega
    have hnl : n < 4611686018427387904 := by omega
    obtain ⟨W0, hW0⟩ : ∃ W0, W0 = w.alloc (.cells #[.int .i64 0, .int .i64 0] 24) := ⟨_, rfl⟩
    rw [← hW0] at hb0 HX
    clear hD hn hcs hcs2 hA hl h0
    go_enter Try.func13, Try.ntmps13
    go_wp2_with fail
    rw [← hW0]
    clear hW0
    go_wp2_with fail
    go_loopw [4, 15] (fun x y wr => ∃ f k : Nat, x = .int .i64 f ∧ y = .int .i64 k ∧ f < n ∧ k ≤ n ∧ Below W0.heap.size W0 wr ∧ Hid (∀ j, j < k → ltD (atD l j) (atD l f) = false)) (fun _ y _ => n - (intOf y).toNat)
    case atStart => exact ⟨0, 0, rfl, rfl, h0n, Nat.zero_le _, Below.refl _ _, Lib.hid (fun j hj => absurd hj (Nat.not_lt_zero _))⟩
    case round =>
      obtain ⟨f, k, rfl, rfl, hf, hk, hb, HM⟩ := hrel
      have hbw : Below w.heap.size w wr := hb0.trans (hb.mono hb0.size)
      obtain ⟨d1, d2⟩ := HCs.out f hf wr hbw
      by_cases hlt : k < n
      · obtain ⟨c1, c2⟩ := HCs.out k hlt wr hbw
        have hL := qless_at g o n cap k f (atD l k) (atD l f) wr (by omega) (by omega) c1 c2 d1 d2
        have e1 : IntKind.i64.wrap ((k : Int) + 1) = ((k + 1 : Nat) : Int) := by simp only [IntKind.wrap_i64]; omega
        generalize hq : ltD (atD l k) (atD l f) = q at hL
        have HQ := Lib.hid hq
        clear hq c1 c2 d1 d2
        go_wp2_with fail
        with_reducible refine hL.mono ?_
        rintro e w2 ⟨rfl, hb2⟩
        have hb3 := hb.trans (hb2.mono hb.size)
        clear hL hb2 hb hbw
        cases q
        · have HM2 : Hid (∀ j, j < k + 1 → ltD (atD l j) (atD l f) = false) := Lib.hid (fun j hj => by
            rcases Nat.lt_or_ge j k with h | h
            · exact HM.out j h
            · obtain rfl : j = k := by omega
              exact HQ.out)
          clear HM HQ
          go_wp2
          go_roundw
          case rel => exact ⟨f, k + 1, rfl, rfl, hf, hlt, hb3, HM2⟩
          case measure => simp only [intOf]; omega
        · have HM2 : Hid (∀ j, j < k + 1 → ltD (atD l j) (atD l k) = false) := Lib.hid (fun j hj => by
            rcases Nat.lt_or_ge j k with h | h
            · exact le_trans' (ltD_asymm HQ.out) (HM.out j h)
            · obtain rfl : j = k := by omega
              exact ltD_irr _)
          clear HM HQ
          go_wp2
          go_roundw
          case rel => exact ⟨k, k + 1, rfl, rfl, hlt, hlt, hb3, HM2⟩
          case measure => simp only [intOf]; omega
      · obtain rfl : k = n := by omega
        have HE : Hid (D = atD l f) := Lib.hid (by
          have := HN.out
          rw [HF.out]
          exact first_min f (by omega) (fun j hj => HM.out j (by omega)))
        have hx := HX.out.kept hb
        generalize atD l f = d at d1 d2 HE
        obtain ⟨da, di⟩ := d
        dsimp only at d1 d2
        obtain ⟨x0, f0, x1, f1, hX⟩ := store2_of hx (.int .i64 da) (.int .i64 di)
        have hB : Below w.heap.size w ((wr.setCell ⟨w.heap.size, 0, none⟩ (.int .i64 da)).setCell ⟨w.heap.size, 1, none⟩ (.int .i64 di)) := (hbw.setCell (p := ⟨w.heap.size, 0, none⟩) (Nat.le_refl _) _).setCell (p := ⟨w.heap.size, 1, none⟩) (Nat.le_refl _) _
        have y0 := hX.cell 0 (by simp)
        have y1 := hX.cell 1 (by simp)
        dsimp only [List.getElem_cons_zero, List.getElem_cons_succ] at y0 y1
        have t0 : (0 : Int) ≤ (f : Int) := by omega
        have t1 : (f : Int) < (k : Int) := by omega
        clear HM HCs HF HX hx hX hb hb0 hbw
        go_wp2
        refine bodyPost_ret (v := .tuple #[.agg #[.int .i64 da, .int .i64 di], .bool true]) ?_ rfl ⟨by rw [HE.out]; rfl, hB⟩
        rw [results_cell_tmp rfl]
        simp [asAddr, Result.andThen, go_sem, y0, y1]
end Go.Proofs.Ytlbmkokdoigcnaa
