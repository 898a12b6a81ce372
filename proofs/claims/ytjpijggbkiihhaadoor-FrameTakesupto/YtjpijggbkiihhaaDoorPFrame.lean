/-
  Frames as plain functions: which are right, a frame's bytes, the frame that bytes begin with, all that they begin with; what is laid is taken, what is taken is laid as it was, and what follows hangs on the bytes alone, however they are cut. No condition.
-/
import Derived.Test.YtjpijggbkiihhaaDoorPText
import Derived.Test.YtjpijggbkiihhaaDoorPBa
namespace Go.Proofs.YtjpijggbkiihhaaDoor

structure Fr where
  t : Int
  c : Int
  d : ByteArray

/-- what each type allows -/
def kOk (t : Int) : Bool := t == 1 || t == 2 || t == 3 || t == 8
def kLast (t : Int) : Int := if kOk t = true then (if t = 8 then 0 else 65535) else 0
def kLeast (t : Int) : Int := if t = 3 then 1 else 0
def kMost (t : Int) : Int := if kOk t = true then (if t = 8 then 0 else 131072) else 0
def frRight (f : Fr) : Bool := kOk f.t && decide (0 ≤ f.c ∧ f.c ≤ kLast f.t) && decide (kLeast f.t ≤ f.d.size ∧ f.d.size ≤ kMost f.t)
/-- a frame's bytes -/
def frB (f : Fr) : ByteArray := putR 1 f.t ++ (putR 2 f.c ++ (layR 4 f.d ++ putR 1 206))
def frBytes (f : Fr) : ByteArray := if frRight f = true then frB f else ⟨#[]⟩
def frBytesE (f : Fr) : Int := if frRight f = true then 0 else 1

/-- the frame that bytes begin with: what stands ahead of its data, and all of it -/
def fr1 (s : ByteArray) : ByteArray := takeR s 1
def fr2 (s : ByteArray) : ByteArray := takeR (fr1 s) 2
def frCode (s : ByteArray) : Int := takeV s 1
def frChan (s : ByteArray) : Int := takeV (fr1 s) 2
def frSize (s : ByteArray) : Int := takeV (fr2 s) 4
def frontE (s : ByteArray) : Int := if takeOk s 1 = true then (if kOk (frCode s) = true then (if takeOk (fr1 s) 2 = true then (if takeOk (fr2 s) 4 = true then 0 else 2) else 2) else 6) else 2
def roomOf (m : Int) : Int := min (max m 4096) 131072 - 8
def frGot (s : ByteArray) : Fr := ⟨frCode s, frChan s, ttA 4 (fr2 s)⟩
def frEnd (s : ByteArray) : ByteArray := ttR 4 (fr2 s)
def frRest (s : ByteArray) : ByteArray := takeR (frEnd s) 1
def frE (s : ByteArray) (m : Int) : Int :=
  if frontE s = 0 then (if frSize s ≤ roomOf m then (if ttOk 4 (fr2 s) = true then (if takeOk (frEnd s) 1 = true then (if (takeV (frEnd s) 1 == 206 && frRight (frGot s)) = true then 0 else 6) else 2) else 2) else 6) else frontE s
def frNone : Fr := ⟨0, 0, ⟨#[]⟩⟩
def frF (s : ByteArray) (m : Int) : Fr := if frE s m = 0 then frGot s else frNone
def frR (s : ByteArray) (m : Int) : ByteArray := if frE s m = 0 then frRest s else ⟨#[]⟩

theorem roomOf_bounds (m : Int) : 4088 ≤ roomOf m ∧ roomOf m ≤ 131064 := by unfold roomOf; omega
theorem frontE_cases (s : ByteArray) : frontE s = 0 ∨ frontE s = 2 ∨ frontE s = 6 := by
  unfold frontE
  split
  · split
    · split
      · split <;> simp
      · simp
    · simp
  · simp
theorem frE_cases (s : ByteArray) (m : Int) : frE s m = 0 ∨ frE s m = 2 ∨ frE s m = 6 := by
  unfold frE
  split
  · split
    · split
      · split
        · split <;> simp
        · simp
      · simp
    · simp
  · exact frontE_cases s
theorem frontE_zero {s : ByteArray} (h : frontE s = 0) : takeOk s 1 = true ∧ kOk (frCode s) = true ∧ takeOk (fr1 s) 2 = true ∧ takeOk (fr2 s) 4 = true := by
  unfold frontE at h
  split at h
  · rename_i h1
    split at h
    · rename_i h2
      split at h
      · rename_i h3
        split at h
        · rename_i h4
          exact ⟨h1, h2, h3, h4⟩
        · cases h
      · cases h
    · cases h
  · cases h
theorem frE_zero {s : ByteArray} {m : Int} (h : frE s m = 0) : frontE s = 0 ∧ frSize s ≤ roomOf m ∧ ttOk 4 (fr2 s) = true ∧ takeOk (frEnd s) 1 = true ∧ takeV (frEnd s) 1 = 206 ∧ frRight (frGot s) = true := by
  unfold frE at h
  split at h
  · rename_i h1
    split at h
    · rename_i h2
      split at h
      · rename_i h3
        split at h
        · rename_i h4
          split at h
          · rename_i h5
            simp only [Bool.and_eq_true, beq_iff_eq] at h5
            exact ⟨h1, h2, h3, h4, h5.1, h5.2⟩
          · cases h
        · cases h
      · cases h
    · cases h
  · exact absurd h ‹_›
theorem frontE_of {s : ByteArray} (h1 : takeOk s 1 = true) (h2 : kOk (frCode s) = true) (h3 : takeOk (fr1 s) 2 = true) (h4 : takeOk (fr2 s) 4 = true) : frontE s = 0 := by
  rw [frontE, if_pos h1, if_pos h2, if_pos h3, if_pos h4]
theorem frE_of {s : ByteArray} {m : Int} (h1 : frontE s = 0) (h2 : frSize s ≤ roomOf m) (h3 : ttOk 4 (fr2 s) = true) (h4 : takeOk (frEnd s) 1 = true) (h5 : takeV (frEnd s) 1 = 206) (h6 : frRight (frGot s) = true) : frE s m = 0 := by
  rw [frE, if_pos h1, if_pos h2, if_pos h3, if_pos h4, if_pos (by rw [h5, h6]; rfl)]

/-- what is taken is laid as it was -/
theorem fr_laid {s : ByteArray} {m : Int} (h : frE s m = 0) : frB (frGot s) ++ frRest s = s ∧ frRight (frGot s) = true ∧ ((frGot s).d.size : Int) ≤ roomOf m := by
  obtain ⟨h1, h2, h3, h4, h5, h6⟩ := frE_zero h
  obtain ⟨g1, g2, g3, g4⟩ := frontE_zero h1
  refine ⟨?_, h6, ?_⟩
  · have e1 := put_take_s g1
    have e2 := put_take_s g3
    have e3 := (lay_tt h3).2
    have e4 := put_take_s h4
    rw [h5] at e4
    show putR 1 (frCode s) ++ (putR 2 (frChan s) ++ (layR 4 (ttA 4 (fr2 s)) ++ putR 1 206)) ++ frRest s = s
    rw [ba_assoc, ba_assoc, ba_assoc]
    rw [show putR 1 206 ++ frRest s = ttR 4 (fr2 s) from e4, e3]
    rw [show putR 2 (frChan s) ++ fr2 s = fr1 s from e2]
    exact e1
  · have := ttA_size h3
    show ((ttA 4 (fr2 s)).size : Int) ≤ roomOf m
    unfold frSize at h2
    omega
theorem fr_sizes {s : ByteArray} {m : Int} (h : frE s m = 0) : (frGot s).d.size + 8 + (frRest s).size = s.size := by
  obtain ⟨h1, h2, h3, h4, h5, h6⟩ := frE_zero h
  obtain ⟨g1, g2, g3, g4⟩ := frontE_zero h1
  have q1 : ((fr1 s).size : Int) + 1 = s.size := takeR_size g1
  have q2 : ((fr2 s).size : Int) + 2 = (fr1 s).size := takeR_size g3
  have q3 : ((ttA 4 (fr2 s)).size : Int) + (frEnd s).size + 4 = (fr2 s).size := tt_sizes h3
  have q4 : ((frRest s).size : Int) + 1 = (frEnd s).size := takeR_size h4
  show (ttA 4 (fr2 s)).size + 8 + (frRest s).size = s.size
  omega

theorem frRight_parts {f : Fr} (h : frRight f = true) : kOk f.t = true ∧ (f.t = 1 ∨ f.t = 2 ∨ f.t = 3 ∨ f.t = 8) ∧ 0 ≤ f.c ∧ f.c ≤ 65535 ∧ f.d.size ≤ 131072 := by
  simp only [frRight, Bool.and_eq_true, decide_eq_true_eq] at h
  obtain ⟨⟨h1, h2, h3⟩, h4, h5⟩ := h
  refine ⟨h1, by simp only [kOk, Bool.or_eq_true, beq_iff_eq] at h1; omega, h2, ?_, ?_⟩
  · unfold kLast at h3
    rw [if_pos h1] at h3
    split at h3 <;> omega
  · unfold kMost at h5
    rw [if_pos h1] at h5
    split at h5 <;> omega
theorem fr_puts {f : Fr} (h : frRight f = true) : putOk 1 f.t = true ∧ putOk 2 f.c = true ∧ layOk 4 f.d = true := by
  obtain ⟨-, h1, h2, h3, h4⟩ := frRight_parts h
  refine ⟨?_, ?_, ?_⟩
  · rcases h1 with h | h | h | h <;> rw [h] <;> decide
  · simp [putOk, isW]; omega
  · rw [layOk_four]; simp; omega
theorem frB_size {f : Fr} (h : frRight f = true) : (frB f).size = f.d.size + 8 := by
  obtain ⟨h1, h2, h3⟩ := fr_puts h
  have q1 := putR_size h1
  have q2 := putR_size h2
  have q3 := layR_size h3
  have q4 := putR_size (show putOk 1 206 = true by decide)
  unfold frB
  rw [ByteArray.size_append, ByteArray.size_append, ByteArray.size_append]
  omega
/-- what is laid is taken -/
theorem fr_taken {f : Fr} {m : Int} (h : frRight f = true) (hm : (f.d.size : Int) ≤ roomOf m) (more : ByteArray) : frE (frB f ++ more) m = 0 ∧ frGot (frB f ++ more) = f ∧ frRest (frB f ++ more) = more := by
  obtain ⟨h1, h2, h3⟩ := fr_puts h
  obtain ⟨k0, kt, c0, -⟩ := frRight_parts h
  have hE : putOk 1 206 = true := by decide
  have e0 : frB f ++ more = putR 1 f.t ++ (putR 2 f.c ++ (layR 4 f.d ++ (putR 1 206 ++ more))) := by
    unfold frB
    rw [ba_assoc, ba_assoc, ba_assoc]
  rw [e0]
  generalize hs : putR 1 f.t ++ (putR 2 f.c ++ (layR 4 f.d ++ (putR 1 206 ++ more))) = s
  have a1 : takeOk s 1 = true := by rw [← hs]; exact take_put_ok h1 _
  have a2 : frCode s = f.t := by rw [← hs]; exact take_put_v h1 (by omega) _
  have a3 : fr1 s = putR 2 f.c ++ (layR 4 f.d ++ (putR 1 206 ++ more)) := by rw [← hs]; exact take_put_r h1 _
  have b1 : takeOk (fr1 s) 2 = true := by rw [a3]; exact take_put_ok h2 _
  have b2 : frChan s = f.c := by unfold frChan; rw [a3]; exact take_put_v h2 c0 _
  have b3 : fr2 s = layR 4 f.d ++ (putR 1 206 ++ more) := by unfold fr2; rw [a3]; exact take_put_r h2 _
  obtain ⟨t1, t2, t3⟩ := tt_lay h3 (putR 1 206 ++ more)
  have c1 : ttOk 4 (fr2 s) = true := by rw [b3, ← ttE_zero, t1]; rfl
  have c2 : ttA 4 (fr2 s) = f.d := by rw [b3]; exact t2
  have c3 : frEnd s = putR 1 206 ++ more := by unfold frEnd; rw [b3]; exact t3
  have c4 : frSize s = f.d.size := by
    have := ttA_size c1
    rw [c2] at this
    exact this.symm
  have d1 : takeOk (frEnd s) 1 = true := by rw [c3]; exact take_put_ok hE _
  have d2 : takeV (frEnd s) 1 = 206 := by rw [c3]; exact take_put_v hE (by omega) _
  have d3 : frRest s = more := by unfold frRest; rw [c3]; exact take_put_r hE _
  have g : frGot s = f := by unfold frGot; rw [a2, b2, c2]
  exact ⟨frE_of (frontE_of a1 (by rw [a2]; exact k0) b1 (ttOk_parts c1).1) (by rw [c4]; exact hm) c1 d1 d2 (by rw [g]; exact h), g, d3⟩

/-- more behind: what was taken is taken -/
theorem take_more_behind {s : ByteArray} {n : Int} (h : takeOk s n = true) (x : ByteArray) : takeOk (s ++ x) n = true ∧ takeV (s ++ x) n = takeV s n ∧ takeR (s ++ x) n = takeR s n ++ x := by
  have e : s ++ x = putR n (takeV s n) ++ (takeR s n ++ x) := by rw [← ba_assoc, put_take_s h]
  have hp := put_take_ok h
  rw [e]
  exact ⟨take_put_ok hp _, take_put_v hp (takeV_nonneg _ _) _, take_put_r hp _⟩
theorem tt_more_behind {s : ByteArray} {k : Int} (h : ttOk k s = true) (x : ByteArray) : ttOk k (s ++ x) = true ∧ ttA k (s ++ x) = ttA k s ∧ ttR k (s ++ x) = ttR k s ++ x := by
  obtain ⟨h1, h2⟩ := lay_tt h
  have e : s ++ x = layR k (ttA k s) ++ (ttR k s ++ x) := by rw [← ba_assoc, h2]
  have t := tt_lay h1 (ttR k s ++ x)
  rw [e]
  exact ⟨by rw [← ttE_zero, t.1]; rfl, t.2⟩
theorem front_more {s : ByteArray} (h : frontE s = 0) (x : ByteArray) : frontE (s ++ x) = 0 ∧ frCode (s ++ x) = frCode s ∧ frChan (s ++ x) = frChan s ∧ frSize (s ++ x) = frSize s ∧ fr2 (s ++ x) = fr2 s ++ x := by
  obtain ⟨h1, h2, h3, h4⟩ := frontE_zero h
  obtain ⟨a1, a2, a3⟩ := take_more_behind h1 x
  obtain ⟨b1, b2, b3⟩ := take_more_behind h3 x
  obtain ⟨c1, c2, -⟩ := take_more_behind h4 x
  have e1 : fr1 (s ++ x) = fr1 s ++ x := a3
  have e2 : fr2 (s ++ x) = fr2 s ++ x := by unfold fr2; rw [e1]; exact b3
  have e3 : frCode (s ++ x) = frCode s := a2
  refine ⟨frontE_of a1 (by rw [e3]; exact h2) (by rw [e1]; exact b1) (by rw [e2]; exact c1), e3, ?_, ?_, e2⟩
  · unfold frChan; rw [e1]; exact b2
  · unfold frSize; rw [e2]; exact c2
theorem fr_wrong_more {s : ByteArray} {m : Int} (h : frE s m = 6) (x : ByteArray) : frE (s ++ x) m = 6 := by
  by_cases h0 : frontE s = 0
  · obtain ⟨a0, a1, a2, a3, a4⟩ := front_more h0 x
    rw [frE, if_pos h0] at h
    rw [frE, if_pos a0, a3]
    split at h
    · rename_i h1
      rw [if_pos h1]
      split at h
      · rename_i h2
        obtain ⟨b1, b2, b3⟩ := tt_more_behind h2 x
        rw [a4, if_pos b1]
        have e1 : frEnd (s ++ x) = frEnd s ++ x := by unfold frEnd; rw [a4]; exact b3
        have e2 : frGot (s ++ x) = frGot s := by unfold frGot; rw [a1, a2, a4, b2]
        rw [e1, e2]
        split at h
        · rename_i h3
          obtain ⟨c1, c2, -⟩ := take_more_behind h3 x
          rw [if_pos c1, c2]
          exact h
        · cases h
      · cases h
    · rename_i h1
      rw [if_neg h1]
  · rw [frE, if_neg h0] at h
    have h1 : takeOk s 1 = true ∧ kOk (frCode s) = false := by
      unfold frontE at h
      split at h
      · rename_i h1
        split at h
        · split at h
          · split at h <;> cases h
          · cases h
        · rename_i h2
          exact ⟨h1, by simpa using h2⟩
      · cases h
    obtain ⟨a1, a2, -⟩ := take_more_behind h1.1 x
    have e : frontE (s ++ x) = 6 := by
      rw [frontE, if_pos a1, show frCode (s ++ x) = frCode s from a2, if_neg (by rw [h1.2]; simp)]
    rw [frE, if_neg (by rw [e]; decide), e]
theorem fr_whole_more {s : ByteArray} {m : Int} (h : frE s m = 0) (x : ByteArray) : frE (s ++ x) m = 0 ∧ frGot (s ++ x) = frGot s ∧ frRest (s ++ x) = frRest s ++ x := by
  obtain ⟨h1, h2, h3⟩ := fr_laid h
  have e : s ++ x = frB (frGot s) ++ (frRest s ++ x) := by rw [← ba_assoc, h1]
  rw [e]
  exact fr_taken h2 h3 _
/-- what waits has fewer bytes than may be -/
theorem fr_waits {s : ByteArray} {m : Int} (h : frE s m = 2) : (s.size : Int) < roomOf m + 8 := by
  have hr := (roomOf_bounds m).1
  by_cases h0 : frontE s = 0
  · obtain ⟨g1, g2, g3, g4⟩ := frontE_zero h0
    have q1 : ((fr1 s).size : Int) + 1 = s.size := takeR_size g1
    have q2 : ((fr2 s).size : Int) + 2 = (fr1 s).size := takeR_size g3
    have q3 := takeR_size g4
    rw [frE, if_pos h0] at h
    split at h
    · rename_i h1
      have e : takeV (fr2 s) 4 = frSize s := rfl
      by_cases h2 : ttOk 4 (fr2 s) = true
      · rw [if_pos h2] at h
        by_cases h3 : takeOk (frEnd s) 1 = true
        · rw [if_pos h3] at h
          split at h <;> cases h
        · have q4 := tt_sizes h2
          have q5 := ttA_size h2
          have e2 : ttR 4 (fr2 s) = frEnd s := rfl
          rw [e2] at q4
          have q6 : (frEnd s).size < 1 := by
            simp [takeOk, isW] at h3
            omega
          omega
      · have q4 : ¬ takeV (fr2 s) 4 ≤ ((takeR (fr2 s) 4).size : Int) := by
          intro hle
          apply h2
          simp only [ttOk, g4, Bool.true_and, skipOk]
          simpa using hle
        omega
    · cases h
  · rw [frE, if_neg h0] at h
    unfold frontE at h
    split at h
    · rename_i h1
      have q1 : ((fr1 s).size : Int) + 1 = s.size := takeR_size h1
      split at h
      · split at h
        · rename_i h3
          have q2 : ((fr2 s).size : Int) + 2 = (fr1 s).size := takeR_size h3
          split at h
          · cases h
          · rename_i h4
            simp [takeOk, isW] at h4
            omega
        · rename_i h3
          simp [takeOk, isW] at h3
          omega
      · cases h
    · rename_i h1
      simp [takeOk, isW] at h1
      omega

/-- all frames that bytes begin with, what is left ahead of the first that cannot be taken, and why it cannot -/
def frs (s : ByteArray) (m : Int) : List Fr × ByteArray × Int :=
  if _h : frE s m = 0 then (frGot s :: (frs (frRest s) m).1, (frs (frRest s) m).2) else ([], s, frE s m)
termination_by s.size
  decreasing_by
    all_goals
      have := fr_sizes _h
      omega
theorem frs_go {s : ByteArray} {m : Int} (h : frE s m = 0) : frs s m = (frGot s :: (frs (frRest s) m).1, (frs (frRest s) m).2) := by rw [frs, dif_pos h]
theorem frs_stop {s : ByteArray} {m : Int} (h : frE s m ≠ 0) : frs s m = ([], s, frE s m) := by rw [frs, dif_neg h]
theorem frs_facts (m : Int) : ∀ (n : Nat) (s : ByteArray), s.size ≤ n → (frs s m).1.length * 8 + (frs s m).2.1.size ≤ s.size ∧ ((frs s m).2.2 = 2 ∨ (frs s m).2.2 = 6) := by
  intro n
  induction n with
  | zero =>
    intro s hs
    have h : frE s m ≠ 0 := fun h => by have := fr_sizes h; omega
    rw [frs_stop h]
    have := frE_cases s m
    exact ⟨by simp, by simpa [h] using this⟩
  | succ n ih =>
    intro s hs
    by_cases h : frE s m = 0
    · have q := fr_sizes h
      obtain ⟨i1, i2⟩ := ih (frRest s) (by omega)
      rw [frs_go h]
      refine ⟨?_, i2⟩
      simp only [List.length_cons]
      omega
    · rw [frs_stop h]
      have := frE_cases s m
      exact ⟨by simp, by simpa [h] using this⟩
/-- bytes in two pieces -/
theorem frs_pieces (m : Int) (x : ByteArray) : ∀ (n : Nat) (s : ByteArray), s.size ≤ n →
    ((frs s m).2.2 = 6 → frs (s ++ x) m = ((frs s m).1, (frs s m).2.1 ++ x, 6)) ∧
    ((frs s m).2.2 = 2 → frs (s ++ x) m = ((frs s m).1 ++ (frs ((frs s m).2.1 ++ x) m).1, (frs ((frs s m).2.1 ++ x) m).2)) := by
  intro n
  induction n with
  | zero =>
    intro s hs
    have h : frE s m ≠ 0 := fun h => by have := fr_sizes h; omega
    rw [frs_stop h]
    refine ⟨fun h6 => ?_, fun _ => rfl⟩
    have h6' : frE s m = 6 := h6
    have := fr_wrong_more h6' x
    rw [frs_stop (by rw [this]; decide), this]
  | succ n ih =>
    intro s hs
    by_cases h : frE s m = 0
    · have q := fr_sizes h
      obtain ⟨i1, i2⟩ := ih (frRest s) (by omega)
      obtain ⟨k1, k2, k3⟩ := fr_whole_more h x
      rw [frs_go h, frs_go k1, k2, k3]
      refine ⟨fun h6 => ?_, fun h2 => ?_⟩
      · rw [i1 h6]
      · rw [i2 h2]; rfl
    · rw [frs_stop h]
      refine ⟨fun h6 => ?_, fun _ => rfl⟩
      have h6' : frE s m = 6 := h6
      have := fr_wrong_more h6' x
      rw [frs_stop (by rw [this]; decide), this]
/-- frames, one behind the other -/
def allB : List Fr → ByteArray
  | [] => ⟨#[]⟩
  | f :: l => frBytes f ++ allB l
theorem frs_nil (m : Int) : frs ⟨#[]⟩ m = ([], ⟨#[]⟩, 2) := by
  have e : frE ⟨#[]⟩ m = 2 := by
    have h : takeOk ⟨#[]⟩ 1 = false := by decide
    have h2 : frontE ⟨#[]⟩ = 2 := by rw [frontE, h, if_neg (by decide)]
    rw [frE, if_neg (by rw [h2]; decide), h2]
  rw [frs_stop (by rw [e]; decide), e]
theorem frs_rows (m : Int) : ∀ l : List Fr, (∀ f ∈ l, frRight f = true ∧ (f.d.size : Int) ≤ roomOf m) → frs (allB l) m = (l, ⟨#[]⟩, 2)
  | [], _ => frs_nil m
  | f :: l, h => by
    obtain ⟨h1, h2⟩ := h f (List.mem_cons_self ..)
    obtain ⟨k1, k2, k3⟩ := fr_taken (m := m) h1 h2 (allB l)
    have e : allB (f :: l) = frB f ++ allB l := by rw [allB, frBytes, if_pos h1]
    rw [e, frs_go k1, k2, k3, frs_rows m l (fun g hg => h g (List.mem_cons_of_mem _ hg))]
/-- what Split answers -/
def spR (s : ByteArray) (m : Int) : ByteArray := if (frs s m).2.2 = 2 then (frs s m).2.1 else ⟨#[]⟩
def spE (s : ByteArray) (m : Int) : Int := if (frs s m).2.2 = 2 then 0 else (frs s m).2.2
end Go.Proofs.YtjpijggbkiihhaaDoor
