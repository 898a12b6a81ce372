/-
  beat.Take: what is left, in order, and the numbers of what is taken. Nothing that was there is changed. Conditions: as at Set.
-/
import Derived.Test.YtlbmkokdoigcnaaJMem
import Derived.Test.YtlbmkokdoigcnaaWBeat
namespace Go.Proofs.Ytlbmkokdoigcnaa
open Go.RowKit Go.Shelf

theorem infoIntD : (Try.prog.info? 3).map (fun i => (i.zero, i.size, i.bytes)) = some (some (.int .i64 0), 1, 8) := by kernel_rfl
/-- is it later than now? -/
def laterF (now : Int) (d : DP) : Bool := decide (now < d.a)
def idsOf (l : List DP) : List Int := l.map DP.i
theorem idsOf_snoc (l : List DP) (d : DP) : idsOf (l ++ [d]) = idsOf l ++ [d.i] := by simp [idsOf]
theorem cell_one (w : World) (x : Value) (t : TypeId) : ∀ j u, [x][j]? = some u → (w.alloc (.cells #[x] t)).cell? ((⟨w.heap.size, 0, none⟩ : Addr).add j) = some u := by
  intro j u hj
  match j, hj with
  | 0, hj => simp at hj; subst hj; simp [Addr.add]
theorem vals_d {w : World} {A : Option Addr} {l : List DP} (h : ValsAt w A (rowD l)) (h0 : 0 < l.length) : ∃ b off, A = some ⟨b, off, none⟩ ∧ b < w.heap.size ∧ ∀ k, k < l.length →
    w.cell? ⟨b, off + k * 2, none⟩ = some (.int .i64 (atD l k).a) ∧ w.cell? ⟨b, off + k * 2 + 1, none⟩ = some (.int .i64 (atD l k).i) := by
  have hl := rowD_length l
  obtain ⟨b, off, hA, hlt, hc⟩ := h (by omega)
  refine ⟨b, off, hA, hlt, fun k hk => ?_⟩
  obtain ⟨h1, h2⟩ := rowD_cells l k hk
  have g : ∀ i v, (rowD l)[i]? = some v → w.cell? ⟨b, off + i, none⟩ = some v := fun i v hv => by
    obtain ⟨hi, he⟩ := List.getElem?_eq_some_iff.1 hv
    rw [hc i hi, he]
  exact ⟨g _ _ h1, g _ _ h2⟩

set_option maxRecDepth 100000 in
set_option maxHeartbeats 4000000 in
theorem take_any (A : Option Addr) (cap : Nat) (l : List DP) (now : Int) (w : World) (hA : InD w A cap l) (hl : l.length < 999999) :
    Calls Try.prog 11 #[.slice A l.length cap, .int .i64 now] w fun e w' => ∃ u v, e = .returned (.tuple #[u, v]) ∧
      w'.ownsRow w.heap.size 24 2 u (restF (laterF now) (srt l)).length (rowD (restF (laterF now) (srt l))) ∧
      w'.ownsRow w.heap.size 3 1 v (offF (laterF now) (srt l)).length (intVals (idsOf (offF (laterF now) (srt l)))) ∧ Below w.heap.size w w' := by
  obtain ⟨i0, hi, hz0, hz1, hz2⟩ := info_partsD infoIntD
  obtain ⟨off, hOff⟩ : ∃ off, off = offF (laterF now) (srt l) := ⟨_, rfl⟩
  obtain ⟨rest, hRest⟩ : ∃ rest, rest = restF (laterF now) (srt l) := ⟨_, rfl⟩
  rw [← hOff, ← hRest]
  have hoff : off.length ≤ l.length := by rw [hOff, ← srt_length l]; exact (List.takeWhile_prefix _).length_le
  have HOff := Lib.hid hOff
  have HRest := Lib.hid hRest
  clear hOff hRest
  have hmf : ∀ (p : Value) (w : World), (Instr.makeFunc (.func 27) #[] #[p]).run Try.prog w = .ok (.func (.func 27) #[] #[p]) w := fun _ _ => by kernel_rfl
  obtain ⟨W0, hW0⟩ : ∃ W0, W0 = w.alloc (.cells #[.int .i64 now] 3) := ⟨_, rfl⟩
  have hb0 : Below w.heap.size w W0 := by rw [hW0]; exact (Below.refl _ w).alloc (Nat.le_refl _) _
  have hx0 : Bx W0 w.heap.size 3 [.int .i64 now] := by rw [hW0]; exact Bx.new w _ _
  have hs0 := hb0.size
  have hH := heaped_any A cap l 26 #[] (fun _ => false) none W0 (none_tells W0) enters_none (hA.below hb0).1 (hA.below hb0).2 (by omega)
  have hka : kept (fun _ => false) l = l := by simp [kept]
  rw [hka] at hH
  clear hka
  go_enter Try.func11, Try.ntmps11
  go_wp2_with fail
  rw [← hW0]
  have hws : w.heap.size < W0.heap.size := hx0.lt
  clear hW0
  go_wp2_with fail
  with_reducible refine hH.mono ?_
  rintro e w2 ⟨b, v, m, rfl, hq, hh, hp, hb2⟩
  have hb3 : Below w.heap.size w w2 := hb0.trans (hb2.mono hs0)
  have hx2 := hx0.kept hb2
  have hlm : m.length < 1000000 := by rw [hp.length_eq]; omega
  have hbW : W0.heap.size ≤ b := hq.hb
  have hvW : ∀ g, v.ownBlock = some g → W0.heap.size ≤ g := fun g hg => (hq.own.lt g hg).1
  have hC := come_any _ b v m 27 #[.pointer (some ⟨w.heap.size, 0, none⟩)] (laterF now) (some w.heap.size) w2 (later_tells now w.heap.size w2 hx2) enters_later hq hh hlm (fun e => by cases e; omega) (fun k e h => by cases e; have := hvW _ h; omega)
  rw [srt_perm hp, ← HOff.out, ← HRest.out] at hC
  clear hH hb0 hb2 hq hh hx0 hx2 hp HOff HRest
  go_wp2_with fail
  with_reducible refine hC.mono ?_
  rintro e w4 ⟨u, rfl, ho, v', m', hq', hh', hsr, hlm', hvv, hF⟩
  have hb4 : Below w.heap.size w w4 := hb3.trans (hF.below hb3.size (by omega) (fun g hg => by have := hvW g hg; omega))
  obtain ⟨A4, c4, rfl, hin⟩ := InD.of_own ho
  have ho2 := own_down ho hb3.size
  clear hC hF hb3
  have hvW' : ∀ g, v'.ownBlock = some g → W0.heap.size ≤ g ∧ g < w4.heap.size := fun g hg => hq'.own.lt g hg
  have hB4 : ∀ w5, Below w4.heap.size w4 w5 → ∀ w6, Fr2 b v'.ownBlock w5 w6 → Below w.heap.size w w6 := fun w5 h5 w6 h6 =>
    (hb4.trans (h5.mono hb4.size)).trans (h6.below (Nat.le_trans hb4.size h5.size) (by omega) (fun g hg => by have := (hvW' g hg).1; omega))
  have hC2 : ∀ w5, Below w4.heap.size w4 w5 → Calls Try.prog 28 #[.pointer (some ⟨b, 0, none⟩), .func (.func 26) #[] #[]] w5 fun e w' =>
      ∃ u, e = .returned u ∧ w'.ownsRow w5.heap.size 24 2 u rest.length (rowD rest) ∧ Fr2 b v'.ownBlock w5 w' := fun w5 h5 => by
    have h := come_any _ b v' m' 26 #[] (fun _ => false) none w5 (none_tells w5) enters_none (hq'.kept h5) hh' (by omega) (fun e => by cases e) (fun k e => by cases e)
    rw [takeWhile_all, hsr] at h
    refine h.mono ?_
    rintro e w' ⟨u, he, ho, v'', m'', -, -, -, -, -, hF⟩
    exact ⟨u, he, ho, hF⟩
  have HB4 := Lib.hid hB4
  have HVW := Lib.hid hvW'
  have HBlt := Lib.hid hq'.box.lt
  have HC2 := Lib.hid hC2
  have HB := Lib.hid hb4
  have HO2 := Lib.hid ho2
  have HIn := Lib.hid hin
  clear hin ho ho2 hB4 hC2 hvW' hq' hh' hsr hlm' hvv hb4 hvW hbW hlm
  go_wp2_with fail
  go_loopw [8, 18] (fun x y wr => ∃ k : Nat, y = .int .i64 k ∧ k ≤ off.length ∧ wr.ownsRow w4.heap.size 3 1 x k (intVals (idsOf (off.take k))) ∧ Below w4.heap.size w4 wr) (fun _ y _ => off.length - (intOf y).toNat)
  case atStart => exact ⟨0, rfl, Nat.zero_le _, World.ownsRow_nil _ _ _ _, Below.refl _ _⟩
  case round =>
    obtain ⟨k, rfl, hk, hown, hb⟩ := hrel
    by_cases hlt : k < off.length
    · obtain ⟨g, o, rfl, hgl, hcs⟩ := vals_d (HIn.out.below hb).1 (by omega)
      obtain ⟨c1, c2⟩ := hcs k hlt
      have HS : Hid (intVals (idsOf (off.take (k + 1))) = intVals (idsOf (off.take k)) ++ [.int .i64 (atD off k).i]) := Lib.hid (by rw [take_snoc hlt, idsOf_snoc, intVals_snoc])
      generalize atD off k = d at c1 c2 HS
      obtain ⟨da, di⟩ := d
      dsimp only at c1 c2 HS
      have t0 : (0 : Int) ≤ (k : Int) := by omega
      have t1 : (k : Int) < (off.length : Int) := by omega
      have e1 : IntKind.i64.wrap ((k : Int) + 1) = ((k + 1 : Nat) : Int) := by simp only [IntKind.wrap_i64]; omega
      have hs := hb.size
      have hown2 : ((wr.alloc (.cells #[.int .i64 da, .int .i64 di] 24)).alloc (.cells #[.int .i64 di] 3)).ownsRow w4.heap.size 3 1 _ k (intVals (idsOf (off.take k))) := (hown.alloc _).alloc _
      have hC := cell_one (wr.alloc (.cells #[.int .i64 da, .int .i64 di] 24)) (.int .i64 di) 3
      rw [World.size_alloc] at hC
      have HC := Lib.hid hC
      have ml : k + 1 ≤ maxLen := by unfold maxLen; omega
      have h2 : (k + 1) * 8 ≤ 140737488355328 := by omega
      have hsz : w4.heap.size ≤ ((wr.alloc (.cells #[.int .i64 da, .int .i64 di] 24)).alloc (.cells #[.int .i64 di] 3)).heap.size := by simp; omega
      have hbl := hown.lt
      have hbb := (hb.alloc hs (.cells #[.int .i64 da, .int .i64 di] 24)).alloc (by simp; omega) (.cells #[.int .i64 di] 3)
      obtain ⟨A8, c8, rfl, -⟩ := vals_of_row hown
      have HBl := Lib.hid hbl
      have HBb := Lib.hid hbb
      clear hown hC hbl hbb hcs hb
      generalize intVals (idsOf (off.take k)) = row at *
      go_wp2_with (at_builtin; refine wpList_append_lies _ rfl _ _ 28 rfl w4.heap.size 3 i0 (.int .i64 0) 1 8 Try.underlying28 hi hz0 hz1 hz2 rfl (by decide) (.slice A8 k c8) k row rfl hown2 ⟨wr.heap.size + 1, 0, none⟩ 1 1 [.int .i64 di] rfl rfl HC.out ?s1 (by decide) ml h2 hsz (wr.heap.size + 2) ?s2 ?s3)
      case s1 => simp [Value.oneCell']
      case s2 => simp
      case s3 =>
        intro g5 cap5 w5 hown5 hgrow5 hat5 hlt5
        have hb5 : Below w4.heap.size w4 w5 := HBb.out.grown hgrow5 hsz (fun j hj => (HBl.out j hj).1)
        have HO5 : Hid (w5.ownsRow w4.heap.size 3 1 (.slice (some ⟨g5, 0, none⟩) (k + 1) cap5) (k + 1) (intVals (idsOf (off.take (k + 1))))) := Lib.hid (by rw [HS.out]; exact hown5)
        clear hown5 hgrow5 hat5 hlt5 hown2 HC c1 c2 HS HBb HBl hsz ml h2
        go_wp2
        go_roundw
        case rel => exact ⟨k + 1, rfl, hlt, HO5.out, hb5⟩
        case measure => simp only [intOf]; omega
    · obtain rfl : k = off.length := by omega
      have HX : Hid (wr.ownsRow w4.heap.size 3 1 _ off.length (intVals (idsOf off))) := Lib.hid (by rw [List.take_length] at hown; exact hown)
      have hC := HC2.out wr hb
      have hBx := HB4.out wr hb
      have hs : w.heap.size ≤ wr.heap.size := Nat.le_trans HB.out.size hb.size
      clear HC2 HB4 hown
      go_wp2_with fail
      with_reducible refine hC.mono ?_
      rintro e w6 ⟨u6, rfl, ho6, hF6⟩
      have hB6 := hBx w6 hF6
      have HO6 := Lib.hid (own_down ho6 hs)
      have HX6 := Lib.hid (own_down (own_far HX.out (w' := w6) (fun j hj => by
        have h1 := (HX.out.lt j hj)
        have h3 := HBlt.out
        refine hF6.block j h1.2 (by omega) (fun e => ?_)
        have h2 := (HVW.out j e).2
        omega)) HB.out.size)
      clear hC hBx ho6 hF6 HX
      go_wp2
      go_ret2
      exact ⟨_, _, rfl, HO6.out, HX6.out, hB6⟩
end Go.Proofs.Ytlbmkokdoigcnaa
