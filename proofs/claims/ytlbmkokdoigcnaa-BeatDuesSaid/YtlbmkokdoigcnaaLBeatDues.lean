/-
  BeatDues answers true, whatever the row of what is due, the one that is set and the two numbers; nothing that was there is changed. No condition.
-/
import Derived.Test.YtlbmkokdoigcnaaWBShown
import Derived.Test.YtlbmkokdoigcnaaRBSet
import Derived.Test.YtlbmkokdoigcnaaRBTake
namespace Go.Proofs.Ytlbmkokdoigcnaa
open Go.RowKit Go.Shelf

theorem Bx.fiveD {W : World} {B : Nat} {t : TypeId} {a b c d e : Value} (h : Bx W B t [a, b, c, d, e]) : W.cell? ⟨B, 0, none⟩ = some a ∧ W.cell? ⟨B, 1, none⟩ = some b ∧ W.cell? ⟨B, 2, none⟩ = some c ∧ W.cell? ⟨B, 3, none⟩ = some d ∧ W.cell? ⟨B, 4, none⟩ = some e :=
  ⟨h.cell 0 (by simp), h.cell 1 (by simp), h.cell 2 (by simp), h.cell 3 (by simp), h.cell 4 (by simp)⟩

set_option maxRecDepth 100000 in
set_option maxHeartbeats 8000000 in
theorem beatDues_walk (A : Option Addr) (cap : Nat) (l : List DP) (d : DP) (id now : Int) (w : World) (hA : InD w A cap l) :
    Calls Try.prog 3 #[.agg #[.slice A l.length cap, .int .i64 d.a, .int .i64 d.i, .int .i64 id, .int .i64 now]] w fun e w' => e = .returned (.bool true) ∧ Below w.heap.size w w' := by
  obtain ⟨n, hn⟩ : ∃ n, n = l.length := ⟨_, rfl⟩
  obtain ⟨W0, hW0⟩ : ∃ W0, W0 = w.alloc (.cells #[.slice A n cap, .int .i64 d.a, .int .i64 d.i, .int .i64 id, .int .i64 now] 26) := ⟨_, rfl⟩
  have hb0 : Below w.heap.size w W0 := by rw [hW0]; exact (Below.refl _ w).alloc (Nat.le_refl _) _
  have hx0 : Bx W0 w.heap.size 26 [.slice A n cap, .int .i64 d.a, .int .i64 d.i, .int .i64 id, .int .i64 now] := by rw [hW0]; exact Bx.new w _ _
  obtain ⟨W1, hW1⟩ : ∃ W1, W1 = W0.alloc (.cells #[.int .i64 d.a, .int .i64 d.i] 24) := ⟨_, rfl⟩
  have hb1 : Below w.heap.size w W1 := by rw [hW1]; exact hb0.alloc hb0.size _
  have hx1 : Bx W1 w.heap.size 26 [.slice A n cap, .int .i64 d.a, .int .i64 d.i, .int .i64 id, .int .i64 now] := by rw [hW1]; exact hx0.alloc _
  have hd1 : Bx W1 W0.heap.size 24 [.int .i64 d.a, .int .i64 d.i] := by rw [hW1]; exact Bx.new W0 _ _
  rw [← hn]
  rcases Nat.lt_or_ge 200 n with hbig | hsmall
  · have t1 : decide (200 < n) = true := by simpa using hbig
    have t2 : 200 < n := hbig
    obtain ⟨x0, x1, x2, x3, x4⟩ := hx0.fiveD
    obtain ⟨y0, y1, y2, y3, y4⟩ := hx1.fiveD
    clear hA hn hbig hx0 hx1 hd1 hb0
    go_enter Try.func3, Try.ntmps3
    go_upto_region 1 with fail
    rw [← hW0]
    clear hW0
    go_upto_region 3 with fail
    rw [← hW1]
    clear hW1
    go_wp2_with fail
    refine (bshown_any W1).mono ?_
    rintro e w1 ⟨rfl, hb2⟩
    have hB1 := hb1.trans (hb2.mono hb1.size)
    clear x0 x1 x2 x3 x4 y0 y1 y2 y3 y4
    go_wp2
    go_ret
    exact ⟨rfl, hB1⟩
  · have t1 : decide (200 < n) = false := by simp; omega
    have t2 : ¬ (200 < n) := by omega
    have hAl := fun w' (h : Below w.heap.size w w') => hA.below h
    have hTk := fun w' (h : Below w.heap.size w w') => take_any A cap l now w' (hAl w' h) (by omega)
    have hRTk := fun w' (h : Below w.heap.size w w') => rtake_any A cap l now w' (hAl w' h) (by omega)
    have hNx := fun w' (h : Below w.heap.size w w') => next_any A cap l w' (hAl w' h) (by omega)
    have hRNx := fun w' (h : Below w.heap.size w w') => rnext_any A cap l w' (hAl w' h) (by omega)
    have hSt := fun w' (h : Below w.heap.size w w') => set_any A cap l d w' (hAl w' h) (by omega)
    have hRSt := fun w' (h : Below w.heap.size w w') => rset_any A cap l d w' (hAl w' h) (by omega)
    have hDr := fun w' (h : Below w.heap.size w w') => drop_any A cap l id w' (hAl w' h) (by omega)
    have hRDr := fun w' (h : Below w.heap.size w w') => rdrop_any A cap l id w' (hAl w' h) (by omega)
    have hl1 := rest_len now l
    have hl2 : (setF l d).length ≤ 201 := by
      have h1 := (srt_self (dropF d.i l ++ [d])).length_eq
      have h2 : (dropF d.i l).length ≤ l.length := kept_len _ _
      have h3 : (setF l d).length = (dropF d.i l ++ [d]).length := h1
      rw [h3]
      simp
      omega
    have hl3 : (srt (dropF id l)).length ≤ 200 := by
      rw [srt_length]
      have h2 : (dropF id l).length ≤ l.length := kept_len _ _
      omega
    generalize offF (laterF now) (srt l) = off at *
    generalize restF (laterF now) (srt l) = rest at *
    generalize setF l d = sl at *
    generalize srt (dropF id l) = dl at *
    generalize firstF l = f at *
    generalize decide (0 < l.length) = q at *
    rw [← hn] at hTk hRTk hNx hRNx hSt hRSt hDr hRDr hl1
    have hil : (idsOf off).length = off.length := by simp [idsOf]
    have ho200 : off.length ≤ 200 := by omega
    have hr200 : rest.length ≤ 200 := by omega
    generalize idsOf off = ids at *
    obtain ⟨ol, hol⟩ : ∃ ol, ol = off.length := ⟨_, rfl⟩
    rw [← hol] at hTk hRTk hil ho200
    have hef : encD f = .agg #[.int .i64 f.a, .int .i64 f.i] := rfl
    rw [hef] at hNx hRNx
    have hed : encD d = .agg #[.int .i64 d.a, .int .i64 d.i] := rfl
    rw [hed] at hSt hRSt
    have HIl := Lib.hid hil
    obtain ⟨x0, x1, x2, x3, x4⟩ := hx0.fiveD
    obtain ⟨y0, y1, y2, y3, y4⟩ := hx1.fiveD
    clear hA hn hsmall hx0 hx1 hb0 hl1 hol hef hed hil hAl
    go_enter Try.func3, Try.ntmps3
    go_upto_region 1 with fail
    rw [← hW0]
    clear hW0
    go_upto_region 3 with fail
    rw [← hW1]
    clear hW1
    go_wp2_with fail
    refine (bshown_any W1).mono ?_
    rintro e w1 ⟨rfl, hb2⟩
    have hB1 := hb1.trans (hb2.mono hb1.size)
    have hd2 := hd1.kept hb2
    clear x0 x1 x2 x3 x4 y0 y1 y2 y3 y4 hb2 hd1
    go_wp2_with fail
    refine (hTk w1 hB1).mono ?_
    rintro e w2 ⟨u2, v2, rfl, hu2, hv2, hb2⟩
    have hB2 := hB1.trans (hb2.mono hB1.size)
    have hd3 := hd2.kept hb2
    obtain ⟨Aa, ca, rfl, hia⟩ := InD.of_own hu2
    obtain ⟨Pa, ka, rfl, hpa, -⟩ := ini_of hv2
    clear hu2 hv2 hb2 hd2 hB1
    go_wp2_with fail
    refine (hRTk w2 hB2).mono ?_
    rintro e w3 ⟨u3, v3, rfl, hu3, hv3, hb3⟩
    have hB3 := hB2.trans (hb3.mono hB2.size)
    have hd4 := hd3.kept hb3
    have hia := hia.below hb3
    have hpa := ValsAt.below hpa hb3
    obtain ⟨Ab, cb, rfl, hib⟩ := InD.of_own hu3
    obtain ⟨Pb, kb, rfl, hpb, -⟩ := ini_of hv3
    clear hu3 hv3 hb3 hd3 hB2
    go_wp2_with fail
    refine (hNx w3 hB3).mono ?_
    rintro e w4 ⟨rfl, hb4⟩
    have hb4a : Below w3.heap.size w3 (w4.alloc (.cells #[.int .i64 f.a, .int .i64 f.i] 24)) := hb4.alloc hb4.size _
    have hx4 := Bx.new w4 24 [.int .i64 f.a, .int .i64 f.i]
    have hB4 := hB3.trans (hb4a.mono hB3.size)
    have hd5 := hd4.kept hb4a
    have hia := hia.below hb4a
    have hib := hib.below hb4a
    have hpa := ValsAt.below hpa hb4a
    have hpb := ValsAt.below hpb hb4a
    clear hb4 hb4a hd4 hB3
    go_wp2_with fail
    refine (hRNx _ hB4).mono ?_
    rintro e w5 ⟨rfl, hb5⟩
    obtain ⟨W6, hW6⟩ : ∃ W6, W6 = w5.alloc (.cells #[.int .i64 f.a, .int .i64 f.i] 24) := ⟨_, rfl⟩
    have hb5a : Below (w4.alloc (.cells #[.int .i64 f.a, .int .i64 f.i] 24)).heap.size (w4.alloc (.cells #[.int .i64 f.a, .int .i64 f.i] 24)) W6 := by rw [hW6]; exact hb5.alloc hb5.size _
    have hz6 : Bx W6 w5.heap.size 24 [.int .i64 f.a, .int .i64 f.i] := by rw [hW6]; exact Bx.new w5 _ _
    have hx6 := hx4.kept hb5a
    have hB6 := hB4.trans (hb5a.mono hB4.size)
    have hd6 := hd5.kept hb5a
    have hia := hia.below hb5a
    have hib := hib.below hb5a
    have hpa := ValsAt.below hpa hb5a
    have hpb := ValsAt.below hpb hb5a
    clear hb5 hb5a hd5 hB4 hx4 hTk hRTk hNx hRNx
    go_upto_region 12 with fail
    rw [← hW6]
    clear hW6
    have keep : ∀ w', Below W6.heap.size W6 w' → w'.cell? ⟨W0.heap.size, 0, none⟩ = some (.int .i64 d.a) ∧ w'.cell? ⟨W0.heap.size, 1, none⟩ = some (.int .i64 d.i) := fun w' h => by
      have hx := hd6.kept h
      exact ⟨hx.cell 0 (by simp), hx.cell 1 (by simp)⟩
    have hto : ∀ w', Below W6.heap.size W6 w' → Below w.heap.size w w' := fun w' h => hB6.trans (h.mono hB6.size)
    go_region_held3 (fun w' => w'.cell? ⟨W0.heap.size, 0, none⟩ = some (.int .i64 d.a) ∧ w'.cell? ⟨W0.heap.size, 1, none⟩ = some (.int .i64 d.i)) (first | (with_reducible exact keep _ f7) | (with_reducible exact keep _ f6) | (with_reducible exact keep _ f5) | (with_reducible exact keep _ f4) | (with_reducible exact keep _ f3) | (with_reducible exact keep _ f2) | (with_reducible exact keep _ f1) | (with_reducible exact keep _ (Below.refl _ W6).drew)) (first
      | (go_at_call 15; with_reducible refine (rsame_any Aa Ab ca cb rest s6 (hia.below f6) (hib.below f6) (by omega)).mono ?_; rintro e s7 ⟨rfl, b7⟩; have f7 : Below W6.heap.size W6 s7 := f6.trans (b7.mono f6.size))
      | (go_at_call 15; with_reducible refine (rsame_any A4 A5 c4 c5 dl s5 (i4.below b5) i5 (by omega)).mono ?_; rintro e s6 ⟨rfl, b6⟩; have f6 : Below W6.heap.size W6 s6 := f5.trans (b6.mono f5.size))
      | (go_at_call 19; with_reducible refine (hRDr _ (hto _ f4)).mono ?_; rintro e s5 ⟨u5, rfl, o5, b5⟩; have f5 : Below W6.heap.size W6 s5 := f4.trans (b5.mono f4.size); obtain ⟨A5, c5, rfl, i5⟩ := InD.of_own o5)
      | (go_at_call 18; with_reducible refine (hDr _ (hto _ f3)).mono ?_; rintro e s4 ⟨u4, rfl, o4, b4⟩; have f4 : Below W6.heap.size W6 s4 := f3.trans (b4.mono f3.size); obtain ⟨A4, c4, rfl, i4⟩ := InD.of_own o4)
      | (go_at_call 15; with_reducible refine (rsame_any A1 A2 c1 c2 sl s2 (i1.below b2) i2 (by omega)).mono ?_; rintro e s3 ⟨rfl, b3⟩; have f3 : Below W6.heap.size W6 s3 := f2.trans (b3.mono f2.size))
      | (go_at_call 17; with_reducible refine (hRSt _ (hto _ f1)).mono ?_; rintro e s2 ⟨u2, rfl, o2, b2⟩; have f2 : Below W6.heap.size W6 s2 := f1.trans (b2.mono f1.size); obtain ⟨A2, c2, rfl, i2⟩ := InD.of_own o2)
      | (go_at_call 16; with_reducible refine (hSt _ (hto _ (Below.refl _ W6).drew)).mono ?_; rintro e s1 ⟨u1, rfl, o1, b1⟩; have f1 : Below W6.heap.size W6 s1 := (Below.refl _ W6).drew.trans (b1.mono (Below.refl W6.heap.size W6).drew.size); obtain ⟨A1, c1, rfl, i1⟩ := InD.of_own o1))
    clear i1 i2 i4 i5 o1 o2 o4 o5 b1 b2 b3 b4 b5 b6 b7 f1 f2 f3 f4 f5 f6 keep hto hia hib hSt hRSt hDr hRDr hl2 hl3 hr200 hd6
    have hB7 := hB6.trans (f7.mono hB6.size)
    have hpa := ValsAt.below hpa f7
    have hpb := ValsAt.below hpb f7
    have hx7 := hx6.kept f7
    have hz7 := hz6.kept f7
    clear hx6 hz6 f7 hB6
    go_wp2_with fail
    refine (rints_any Pa Pb ka kb ol ids s7 hpa hpb HIl.out (by omega)).mono ?_
    rintro e w8 ⟨rfl, b8⟩
    have hB8 := hB7.trans (b8.mono hB7.size)
    have hx8 := hx7.kept b8
    have hz8 := hz7.kept b8
    have x0 := hx8.cell 0 (by simp)
    have x1 := hx8.cell 1 (by simp)
    have z0 := hz8.cell 0 (by simp)
    have z1 := hz8.cell 1 (by simp)
    clear hx7 hz7 hx8 hz8 hB7 b8 hpa hpb HIl
    go_wp2
    go_ret
    exact ⟨rfl, hB8⟩
end Go.Proofs.Ytlbmkokdoigcnaa
