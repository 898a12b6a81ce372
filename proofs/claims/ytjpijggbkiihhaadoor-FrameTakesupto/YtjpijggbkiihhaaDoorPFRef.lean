/-
  The frame that bytes begin with, byte by byte: the same as by taking it piece by piece. No condition.
-/
import Derived.Test.YtjpijggbkiihhaaDoorPFrame
import Derived.Test.YtjpijggbkiihhaaDoorWFTake
namespace Go.Proofs.YtjpijggbkiihhaaDoor

theorem ba_extract (s : ByteArray) (a b : Nat) : (s.extract a b).data.toList = (s.data.toList.drop a).take (b - a) := by
  rw [ByteArray.data_extract, Array.toList_extract, List.extract_eq_take_drop]
theorem ba_tail (s : ByteArray) (a : Nat) : (s.extract a s.size).data.toList = s.data.toList.drop a := by
  rw [ba_extract, List.take_of_length_le]
  rw [List.length_drop, ba_len]
  omega
theorem takeV_of {s : ByteArray} {n : Int} (h : takeOk s n = true) : takeV s n = (takeL (s.data.toList.take n.toNat) : Int) := by rw [takeV, if_pos h]
theorem takeR_of {s : ByteArray} {n : Int} (h : takeOk s n = true) : (takeR s n).data.toList = s.data.toList.drop n.toNat := by rw [takeR, if_pos h, ba_tail]
theorem takeOk_iff (s : ByteArray) (n : Int) (hn : isW n = true) : takeOk s n = decide (n ≤ s.size) := by simp [takeOk, hn]
theorem takeL_one (b : UInt8) : takeL [b] = b.toNat := by simp [takeL]
theorem takeL_head (l : List UInt8) (k : Nat) (h : k < l.length) : takeL ((l.drop k).take 1) = (l[k]).toNat := by
  rw [List.drop_eq_getElem_cons h, List.take_succ_cons, List.take_zero, takeL_one]
/-- what stands ahead of the data -/
theorem ref_front {s : ByteArray} (h7 : 7 ≤ s.size) :
    takeOk s 1 = true ∧ frCode s = ((s[0]'(by omega)).toNat : Int) ∧ takeOk (fr1 s) 2 = true ∧ takeOk (fr2 s) 4 = true ∧
    frChan s = takeV (s.extract 1 3) 2 ∧ frSize s = takeV (s.extract 3 7) 4 ∧ (takeR (fr2 s) 4).data.toList = s.data.toList.drop 7 := by
  have hL := ba_len s
  have o1 : takeOk s 1 = true := by rw [takeOk_iff s 1 (by decide)]; simp; omega
  have l1 : (fr1 s).data.toList = s.data.toList.drop 1 := takeR_of o1
  have z1 : (fr1 s).size = s.size - 1 := by rw [← ba_len, l1, List.length_drop, hL]
  have o2 : takeOk (fr1 s) 2 = true := by rw [takeOk_iff _ 2 (by decide), z1]; simp; omega
  have l2 : (fr2 s).data.toList = s.data.toList.drop 3 := by
    have h := takeR_of o2
    rw [l1, List.drop_drop] at h
    exact h
  have z2 : (fr2 s).size = s.size - 3 := by rw [← ba_len, l2, List.length_drop, hL]
  have o4 : takeOk (fr2 s) 4 = true := by rw [takeOk_iff _ 4 (by decide), z2]; simp; omega
  have e13 : (s.extract 1 3).data.toList = (s.data.toList.drop 1).take 2 := ba_extract s 1 3
  have e37 : (s.extract 3 7).data.toList = (s.data.toList.drop 3).take 4 := ba_extract s 3 7
  have s13 : (s.extract 1 3).size = 2 := by rw [← ba_len, e13, List.length_take, List.length_drop, hL]; omega
  have s37 : (s.extract 3 7).size = 4 := by rw [← ba_len, e37, List.length_take, List.length_drop, hL]; omega
  have p2 : takeOk (s.extract 1 3) 2 = true := by rw [takeOk_iff _ 2 (by decide), s13]; rfl
  have p4 : takeOk (s.extract 3 7) 4 = true := by rw [takeOk_iff _ 4 (by decide), s37]; rfl
  refine ⟨o1, ?_, o2, o4, ?_, ?_, ?_⟩
  · show takeV s 1 = _
    have h := takeL_head s.data.toList 0 (by omega)
    rw [takeV_of o1]
    rw [List.drop_zero] at h
    rw [show (1 : Int).toNat = 1 from rfl, h]
    rfl
  · show takeV (fr1 s) 2 = _
    rw [takeV_of o2, takeV_of p2, l1, e13, show (2 : Int).toNat = 2 from rfl, List.take_take]
    rfl
  · show takeV (fr2 s) 4 = _
    rw [takeV_of o4, takeV_of p4, l2, e37, show (4 : Int).toNat = 4 from rfl, List.take_take]
    rfl
  · have h := takeR_of o4
    rw [l2, List.drop_drop] at h
    exact h
/-- the data, the last byte, and the rest -/
theorem ref_parts {s : ByteArray} (h7 : 7 ≤ s.size) {n : Nat} (hn : frSize s = n) :
    (n + 7 ≤ s.size ↔ ttOk 4 (fr2 s) = true) ∧
    ((h8 : n + 8 ≤ s.size) → ttA 4 (fr2 s) = s.extract 7 (7 + n) ∧ takeOk (frEnd s) 1 = true ∧ takeV (frEnd s) 1 = ((s[7 + n]'(by omega)).toNat : Int) ∧ frRest s = s.extract (8 + n) s.size) ∧
    (¬ n + 8 ≤ s.size → n + 7 ≤ s.size → takeOk (frEnd s) 1 = false) := by
  have hL := ba_len s
  obtain ⟨o1, -, o2, o4, -, -, l3⟩ := ref_front h7
  have z3 : (takeR (fr2 s) 4).size = s.size - 7 := by rw [← ba_len, l3, List.length_drop, hL]
  have hv : takeV (fr2 s) 4 = n := hn
  have ok : ttOk 4 (fr2 s) = decide (n + 7 ≤ s.size) := by
    rw [ttOk, o4, hv, Bool.true_and, skipOk, z3]
    congr 1
    apply propext
    omega
  refine ⟨by rw [ok]; simp, fun h8 => ?_, fun h8 h9 => ?_⟩
  · have hk : skipOk (takeR (fr2 s) 4) n = true := by
      have : ttOk 4 (fr2 s) = true := by rw [ok]; simp; omega
      rw [ttOk, o4, hv, Bool.true_and] at this
      exact this
    have eE : frEnd s = (takeR (fr2 s) 4).extract n (takeR (fr2 s) 4).size := by
      unfold frEnd ttR
      rw [if_pos o4, hv, skipB, if_pos hk]
      rfl
    have lE : (frEnd s).data.toList = s.data.toList.drop (7 + n) := by rw [eE, ba_tail, l3, List.drop_drop]
    have zE : (frEnd s).size = s.size - (7 + n) := by rw [← ba_len, lE, List.length_drop, hL]
    have oE : takeOk (frEnd s) 1 = true := by rw [takeOk_iff _ 1 (by decide), zE]; simp; omega
    refine ⟨?_, oE, ?_, ?_⟩
    · apply ba_ext
      unfold ttA
      rw [if_pos o4, hv, skipA, if_pos hk, ba_extract, ba_extract, l3, show (n : Int).toNat = n by omega]
      rw [List.drop_zero, Nat.sub_zero, show 7 + n - 7 = n by omega]
    · rw [takeV_of oE, lE, show (1 : Int).toNat = 1 from rfl, takeL_head _ _ (by omega)]
      rfl
    · apply ba_ext
      show (takeR (frEnd s) 1).data.toList = _
      rw [takeR_of oE, lE, List.drop_drop, ba_tail, show (7 + n + (1 : Int).toNat) = 8 + n by simp; omega]
  · have hk : skipOk (takeR (fr2 s) 4) n = true := by
      have : ttOk 4 (fr2 s) = true := by rw [ok]; simp; omega
      rw [ttOk, o4, hv, Bool.true_and] at this
      exact this
    have eE : frEnd s = (takeR (fr2 s) 4).extract n (takeR (fr2 s) 4).size := by
      unfold frEnd ttR
      rw [if_pos o4, hv, skipB, if_pos hk]
      rfl
    have lE : (frEnd s).data.toList = s.data.toList.drop (7 + n) := by rw [eE, ba_tail, l3, List.drop_drop]
    have zE : (frEnd s).size = s.size - (7 + n) := by rw [← ba_len, lE, List.length_drop, hL]
    rw [takeOk_iff _ 1 (by decide), zE]
    simp
    omega
/-- fewer than seven bytes -/
theorem ref_few {s : ByteArray} (h7 : s.size < 7) (m : Int) : (s.size = 0 → frE s m = 2) ∧ ((h0 : 0 < s.size) → kOk ((s[0]'h0).toNat : Int) = true → frE s m = 2) := by
  have hL := ba_len s
  refine ⟨fun h0 => ?_, fun h0 hk => ?_⟩
  · have o1 : takeOk s 1 = false := by rw [takeOk_iff s 1 (by decide), h0]; rfl
    have e : frontE s = 2 := by rw [frontE, if_neg (by rw [o1]; simp)]
    rw [frE, if_neg (by rw [e]; decide), e]
  · have o1 : takeOk s 1 = true := by rw [takeOk_iff s 1 (by decide)]; simp; omega
    have ec : frCode s = ((s[0]'h0).toNat : Int) := by
      show takeV s 1 = _
      have h := takeL_head s.data.toList 0 (by omega)
      rw [takeV_of o1]
      rw [List.drop_zero] at h
      rw [show (1 : Int).toNat = 1 from rfl, h]
      rfl
    have l1 : (fr1 s).data.toList = s.data.toList.drop 1 := takeR_of o1
    have z1 : (fr1 s).size = s.size - 1 := by rw [← ba_len, l1, List.length_drop, hL]
    have e : frontE s = 2 := by
      rw [frontE, if_pos o1, ec, if_pos hk]
      split
      · rename_i o2
        have l2 : (fr2 s).data.toList = s.data.toList.drop 3 := by
          have h := takeR_of o2
          rw [l1, List.drop_drop] at h
          exact h
        have z2 : (fr2 s).size = s.size - 3 := by rw [← ba_len, l2, List.length_drop, hL]
        rw [if_neg]
        rw [takeOk_iff _ 4 (by decide), z2]
        simp
        omega
      · rfl
    rw [frE, if_neg (by rw [e]; decide), e]
theorem ref_type {s : ByteArray} (h0 : 0 < s.size) (m : Int) (hk : kOk ((s[0]'h0).toNat : Int) = false) : frE s m = 6 := by
  have o1 : takeOk s 1 = true := by rw [takeOk_iff s 1 (by decide)]; simp; omega
  have ec : frCode s = ((s[0]'h0).toNat : Int) := by
    show takeV s 1 = _
    have h := takeL_head s.data.toList 0 (by rw [ba_len]; omega)
    rw [takeV_of o1]
    rw [List.drop_zero] at h
    rw [show (1 : Int).toNat = 1 from rfl, h]
    rfl
  have e : frontE s = 6 := by rw [frontE, if_pos o1, ec, if_neg (by rw [hk]; simp)]
  rw [frE, if_neg (by rw [e]; decide), e]
end Go.Proofs.YtjpijggbkiihhaaDoor
