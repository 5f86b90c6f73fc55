/-
  The contracts of dice.Heavy and of what it calls: together, the closure that adds weights up, and the library's IndexFunc at that closure.
-/
import Derived.Test.YtljfinfjchkphaaDcBelow
import Derived.LoopTactic
import Derived.Deep.QuietTactic
import Derived.BigQuiet
namespace Go.Proofs.Ytljfinfjchkphaa
open Go.RowKit

theorem weightE_len {ws : List Int} (h : 256 < ws.length) : weightE ws = 1 := by unfold weightE; rw [if_pos h]
theorem weightE_bad {ws : List Int} {j : Nat} (hj : j < ws.length) (h : nth ws j < 0 ∨ 65536 < nth ws j) : weightE ws = 1 := by
  unfold weightE
  split
  · rfl
  · rw [if_pos ⟨ws[j], List.getElem_mem hj, by rw [← nth_get hj]; exact h⟩]
theorem all_nth {ws : List Int} (h : ∀ j, j < ws.length → 0 ≤ nth ws j ∧ nth ws j ≤ 65536) : ∀ x ∈ ws, 0 ≤ x ∧ x ≤ 65536 := by
  intro x hx
  obtain ⟨j, hj, rfl⟩ := List.mem_iff_getElem.1 hx
  rw [← nth_get hj]
  exact h j hj
theorem weightE_fine {ws : List Int} (hn : ws.length ≤ 256) (h : ∀ x ∈ ws, 0 ≤ x ∧ x ≤ 65536) : weightE ws = if 65536 < ws.sum then 4 else if ws.sum = 0 then 5 else 0 := by
  unfold weightE
  rw [if_neg (by omega), if_neg]
  rintro ⟨x, hx, h1⟩
  have := h x hx
  omega
theorem weightE_zero {ws : List Int} (h : weightE ws = 0) : ws.length ≤ 256 ∧ (∀ x ∈ ws, 0 ≤ x ∧ x ≤ 65536) ∧ ws.sum ≤ 65536 ∧ 0 < ws.sum := by
  unfold weightE at h
  split at h
  · omega
  · split at h
    · omega
    · rename_i h1 h2
      have h3 : ∀ x ∈ ws, 0 ≤ x ∧ x ≤ 65536 := fun x hx => by
        rcases Int.lt_or_le x 0 with h4 | h4
        · exact absurd ⟨x, hx, .inl h4⟩ h2
        · rcases Int.lt_or_le 65536 x with h5 | h5
          · exact absurd ⟨x, hx, .inr h5⟩ h2
          · exact ⟨h4, h5⟩
      have h4 := pre_bd h3 (k := ws.length) (Nat.le_refl _)
      rw [pre_all] at h4
      split at h
      · omega
      · split at h
        · omega
        · exact ⟨by omega, h3, by omega, by omega⟩

/-- What together answers. -/
def TogAns (ws : List Int) (w : World) (e : Ending) (w' : World) : Prop :=
  e = .returned (.tuple #[.int .i64 (if weightE ws = 0 then ws.sum else 0), .int .i64 (weightE ws)]) ∧ w = w'

theorem TogAns.of {ws : List Int} {w : World} {x e : Int} (h1 : weightE ws = e) (h2 : e = 0 → x = ws.sum) (h3 : e ≠ 0 → x = 0) : TogAns ws w (.returned (.tuple #[.int .i64 x, .int .i64 e])) w := by
  refine ⟨?_, rfl⟩
  rw [h1]
  by_cases h : e = 0
  · rw [if_pos h, h2 h]
  · rw [if_neg h, h3 h]

set_option maxHeartbeats 800000 in
theorem together_any (A : Option Addr) (n c : Nat) (ws : List Int) (w : World) (hw : Ints w A n ws) :
    Calls Try.prog 41 #[.slice A n c] w (TogAns ws w) := by
  obtain ⟨hl, hn, hf, hc⟩ := hw
  have HL := Lib.hid hl
  have HC := Lib.hid hc
  clear hl hc hf
  by_cases hlen : 256 < n
  · have HE := Lib.hid (weightE_len (ws := ws) (by rw [HL.out]; exact hlen))
    go_enter Try.func41, Try.ntmps41
    go_wp2
    go_ret2
    exact TogAns.of HE.out (by omega) (by omega)
  · go_enter Try.func41, Try.ntmps41
    go_wp2
    go_loop [4, 12] (fun s t => ∃ (k : Nat) (z : Int), k ≤ n ∧ t = .int .i64 k ∧ s = .int .i64 z ∧ 0 ≤ z ∧ z ≤ 65536 * (k : Int) ∧ Hid (z = pre ws k) ∧ Hid (∀ j, j < k → 0 ≤ nth ws j ∧ nth ws j ≤ 65536)) (fun _ t => n - (intOf t).toNat)
    case atStart => exact ⟨0, 0, Nat.zero_le _, rfl, rfl, by omega, by omega, Lib.hid (pre_zero _).symm, Lib.hid (fun j hj => by omega)⟩
    case round =>
      obtain ⟨k, z, hk, rfl, rfl, z0, z1, HZ, HA⟩ := hrel
      by_cases hlt : k < n
      · obtain ⟨b, o, rfl, -, hcell⟩ := HC.out (by omega)
        have c1 := hcell k hlt
        clear hcell
        have hkl : k < ws.length := by rw [HL.out]; exact hlt
        by_cases hb : nth ws k < 0 ∨ 65536 < nth ws k
        · have HE := Lib.hid (weightE_bad hkl hb)
          clear hkl
          rcases hb with hb | hb
          all_goals
            go_wp2
            go_ret2
            exact TogAns.of HE.out (by omega) (by omega)
        · have hb1 : 0 ≤ nth ws k := by omega
          have hb2 : nth ws k ≤ 65536 := by omega
          have HZ' := Lib.hid (show z + nth ws k = pre ws (k + 1) by rw [pre_succ hkl, HZ.out])
          have HA' : Hid (∀ j, j < k + 1 → 0 ≤ nth ws j ∧ nth ws j ≤ 65536) := Lib.hid (fun j hj => by
            rcases Nat.lt_or_ge j k with h | h
            · exact HA.out j h
            · rw [show j = k by omega]; exact ⟨hb1, hb2⟩)
          clear hkl hb
          go_wp2
          go_round
          case rel => exact ⟨k + 1, z + nth ws k, by omega, by go_num, rfl, by omega, by omega, HZ', HA'⟩
          case measure => simp [intOf]; omega
      · obtain rfl : k = n := by omega
        have hall := all_nth (ws := ws) (fun j hj => HA.out j (by rw [HL.out] at hj; exact hj))
        have hz : z = ws.sum := by rw [HZ.out, ← pre_all, HL.out]
        have HE := Lib.hid (weightE_fine (by rw [HL.out]; omega) hall)
        rw [← hz] at HE
        have HZ := Lib.hid hz
        clear hall hz
        by_cases h1 : 65536 < z
        · go_wp2
          go_ret2
          exact TogAns.of (by rw [HE.out, if_pos h1]) (by omega) (by omega)
        · by_cases h2 : z = 0
          · subst h2
            go_wp2
            go_ret2
            exact TogAns.of (by rw [HE.out]; rfl) (by omega) (by omega)
          · have e1 : (z == 0) = false := by simpa using h2
            go_wp2
            go_ret2
            exact TogAns.of (by rw [HE.out, if_neg (by omega), if_neg h2]) (fun _ => HZ.out) (by omega)

/-- A weight is added up, and held against the number. -/
def AddAns (b : Nat) (u : Int) (t : Bool) (w : World) (e : Ending) (w' : World) : Prop :=
  e = .returned (.bool t) ∧ Bk w' b 3 #[.int .i64 u] ∧ w.grownBy w' (some b)

theorem adds_any (a b : Nat) (u v x : Int) (t : Bool) (w : World) (ha : Bk w a 3 #[.int .i64 v]) (hb : Bk w b 3 #[.int .i64 u]) (hab : a ≠ b) (h0 : 0 ≤ u + x) (h1 : u + x ≤ 100000000) (ht : decide (v < u + x) = t) :
    Calls Try.prog 42 #[.int .i64 x, .pointer (some ⟨b, 0, none⟩), .pointer (some ⟨a, 0, none⟩)] w (AddAns b (u + x) t w) := by
  have c0 := ha.one
  have c1 := hb.one
  have f1 := hb.frozen 0
  have c2 := (ha.far (p := ⟨b, 0, none⟩) hab (.int .i64 (u + x))).one
  have HS : Hid (AddAns b (u + x) t w (.returned (.bool (decide (v < u + x)))) (w.setCell ⟨b, 0, none⟩ (.int .i64 (u + x)))) := by
    refine Lib.hid ⟨by rw [ht], ?_, grown_set _⟩
    simpa using hb.set_ 0 (.int .i64 (u + x))
  clear ha hb ht
  go_enter Try.func42, Try.ntmps42
  go_wp2
  go_ret
  exact HS.out

set_option maxHeartbeats 800000 in
theorem index_any (A : Option Addr) (n c a b : Nat) (ws : List Int) (v : Int) (w0 w : World) (hw : Ints w0 A n ws) (hb0 : Below w0.heap.size w0 w) (hbb : w0.heap.size ≤ b) (hab : a ≠ b) (hn : n ≤ 256) (hr : ∀ x ∈ ws, 0 ≤ x ∧ x ≤ 65536)
    (ha : Bk w a 3 #[.int .i64 v]) (hb : Bk w b 3 #[.int .i64 0]) (hv : 0 ≤ v) (hs : v < ws.sum) :
    Calls Try.prog 28 #[.slice A n c, .func (.func 42) #[] #[.pointer (some ⟨b, 0, none⟩), .pointer (some ⟨a, 0, none⟩)]] w fun e w' => e = .returned (.int .i64 (pick ws v)) ∧ w.grownBy w' (some b) := by
  have HR := Lib.hid hr
  have HW := Lib.hid hw
  have HB0 := Lib.hid hb0
  have HS := Lib.hid hs
  have HBB := Lib.hid hbb
  have HA := Lib.hid ha
  have HB := Lib.hid hb
  clear hr hw hb0 hs hbb ha hb
  go_enter Try.func28, Try.ntmps28
  go_wp2
  go_loopw [8] (fun t wr => ∃ (k : Nat) (u : Int), k ≤ n ∧ t = .int .i64 k ∧ u ≤ v ∧ 0 ≤ u ∧ u ≤ 65536 * (k : Int) ∧ Hid (u = pre ws k) ∧ Hid (Bk wr b 3 #[.int .i64 u] ∧ w.grownBy wr (some b))) (fun t _ => n - (intOf t).toNat)
  case atStart => exact ⟨0, 0, Nat.zero_le _, rfl, hv, by omega, by omega, Lib.hid (pre_zero _).symm, Lib.hid ⟨HB.out, World.grownBy.refl _ _⟩⟩
  case round =>
    obtain ⟨k, u, hk, rfl, huv, u0, u1, HU, HG⟩ := hrel
    by_cases hlt : k < n
    · have hbw : Below w0.heap.size w0 wr := HB0.out.grown HG.out.2 HB0.out.size (by intro j hj; injection hj with hj; have := HBB.out; omega)
      obtain ⟨-, -, -, hc⟩ := HW.out.below hbw
      obtain ⟨bb, o, rfl, -, hcell⟩ := hc (by omega)
      have c1 := hcell k hlt
      clear hcell hc hbw
      have hkl : k < ws.length := by rw [HW.out.1]; exact hlt
      have hx : 0 ≤ nth ws k ∧ nth ws k ≤ 65536 := by rw [nth_get hkl]; exact HR.out _ (List.getElem_mem _)
      obtain ⟨x0, x1⟩ := hx
      have hbk := HG.out.1
      have hak : Bk wr a 3 #[.int .i64 v] := HA.out.grown HG.out.2 (by simpa using hab)
      have hp := pre_succ hkl
      have HP : Hid (u + nth ws k = pre ws (k + 1)) := Lib.hid (by rw [hp, HU.out])
      have HL := Lib.hid hkl
      clear hp hkl
      by_cases hlast : v < u + nth ws k
      · have HF : Hid (pick ws v = k) := Lib.hid (pick_eq (fun x hx => (HR.out x hx).1) ⟨HL.out, by rw [← HU.out]; exact huv, by rw [← HP.out]; exact hlast⟩)
        go_wp2_with fail
        refine (adds_any a b u v (nth ws k) true _ hak hbk hab (by omega) (by omega) (by simpa using hlast)).mono ?_
        rintro e w1 ⟨rfl, hbk1, hg1⟩
        have HG1 := Lib.hid (HG.out.2.trans hg1)
        clear hg1 hbk1 hak hbk
        go_wp2
        go_ret
        exact ⟨ret_i64 (by rw [HF.out]), HG1.out⟩
      · go_wp2_with fail
        refine (adds_any a b u v (nth ws k) false _ hak hbk hab (by omega) (by omega) (by simpa using hlast)).mono ?_
        rintro e w1 ⟨rfl, hbk1, hg1⟩
        have HG1 := Lib.hid (And.intro hbk1 (HG.out.2.trans hg1))
        clear hg1 hbk1 hak hbk
        go_wp2
        go_roundw
        case rel => exact ⟨k + 1, u + nth ws k, by omega, by go_num, by omega, by omega, by omega, HP, HG1⟩
        case measure => simp [intOf]; omega
    · exfalso
      obtain rfl : k = n := by omega
      have h1 := HS.out
      rw [← pre_all, HW.out.1, ← HU.out] at h1
      omega

end Go.Proofs.Ytljfinfjchkphaa
