import Derived.Test.YtfhlligcbpnkkaaDoorMg13
import Derived.Test.YtfhlligcbpnkkaaDoorMg0
import Derived.Test.YtfhlligcbpnkkaaDoorMg1
import Derived.RangeFuncCalls
import Derived.OrdersIn
import Derived.OrdersHeld

/-
  Layer 18, the program: the map of tasks behind events, in mathematics: what it says, a birth, one more event of a task.
-/
namespace Go.Proofs.YtfhlligcbpnkkaaDoor
open Go.RowKit

/-- The blocks below B stay, but for g. -/
structure Bt (B g : Nat) (w w' : World) : Prop where
  os : w'.os = w.os
  tape : w'.tape = w.tape
  output : w'.output = w.output
  size : w.heap.size ≤ w'.heap.size
  block : ∀ k, k < B → k ≠ g → w'.heap[k]? = w.heap[k]?
section
variable {B g : Nat} {w w1 w2 : World}
theorem Bt.refl (B g : Nat) (w : World) : Bt B g w w := ⟨rfl, rfl, rfl, Nat.le_refl _, fun _ _ _ => rfl⟩
theorem Bt.trans (h : Bt B g w w1) (k : Bt B g w1 w2) : Bt B g w w2 := ⟨k.os.trans h.os, k.tape.trans h.tape, k.output.trans h.output, Nat.le_trans h.size k.size, fun j hj hg => (k.block j hj hg).trans (h.block j hj hg)⟩
theorem Bt.of_below (h : Below B w w1) : Bt B g w w1 := ⟨h.os, h.tape, h.output, h.size, fun j hj _ => h.block j hj⟩
theorem Bt.of_big (h : Below w.heap.size w w1) (hs : B ≤ w.heap.size) : Bt B g w w1 := ⟨h.os, h.tape, h.output, h.size, fun j hj _ => h.block j (by omega)⟩
theorem Bt.of_gr {b : Nat} (h : w.grownBy w1 (some b)) (hb : B ≤ b ∨ b = g) (hs : B ≤ w.heap.size) : Bt B g w w1 := ⟨h.os, h.tape, h.output, h.size, fun j hj hg => h.block j (by omega) (fun e => by injection e with e; omega)⟩
theorem Bt.below (h : Bt B g w w1) {B0 : Nat} (h1 : B0 ≤ B) (h2 : B0 ≤ g) : Below B0 w w1 := ⟨h.os, h.tape, h.output, h.size, fun j hj => h.block j (by omega) (by omega)⟩
theorem Bk.bt {k : Nat} {t : TypeId} {cs : Array Value} (h : Bk w k t cs) (hb : Bt B g w w1) (hk : k < B) (hne : k ≠ g) : Bk w1 k t cs := (hb.block k hk hne).trans h
theorem Fol.bt (h : Fol w) (hb : Bt B g w w1) (hg : g ≠ 0) (hB : 0 < B) : Fol w1 := h.below (hb.below (B0 := 1) (by omega) (by omega)) (by decide)
end

theorem run_ok {P : List (List I3)} : ∀ (l : List I3) (t u : Tk) (d : I3), okT t → runT P t d l = some u → okT u
  | [], t, u, d, ht, h => by rw [runT] at h; injection h with h; exact h ▸ ht
  | x :: r, t, u, d, ht, h => by
    rw [runT] at h
    cases e : stepT P t d x with
    | none => rw [e] at h; cases h
    | some v => rw [e] at h; exact run_ok r v u x (stepA_ok ht (by rw [← stepT_A]; exact e)) h
theorem one_ok {P : List (List I3)} {m : List I3} {t : Tk} (hm : m ≠ []) (h : oneT P m = some t) : okT t := by
  cases m with
  | nil => exact absurd rfl hm
  | cons x r =>
    rw [oneT] at h
    cases e : bornT P x with
    | none => rw [e] at h; cases h
    | some v =>
      rw [e] at h
      refine run_ok r v t x ?_ h
      unfold bornT at e
      split at e
      · next q => injection e with e; exact e ▸ q.2.1
      · cases e

/-- The map of tasks behind events, in block g; tasks' blocks lie from B on. -/
structure MapT (P : List (List I3)) (l : List I3) (B : Nat) (w : World) (g n : Nat) (f : Int → Option Nat) : Prop where
  map : PMap w g n f
  cnt : n ≤ l.length
  dom : ∀ id, f id = none ↔ ofR l id = []
  at_ : ∀ id b, f id = some b → B ≤ b ∧ ∃ T x r, ofR l id = r ++ [x] ∧ oneT P (ofR l id) = some T ∧ Bk w b 58 (tkc T x)
  inj : ∀ i j b, f i = some b → f j = some b → i = j
section
variable {P : List (List I3)} {l : List I3} {B : Nat} {w w' : World} {g n b : Nat} {f : Int → Option Nat} {x : I3}
theorem MapT.grown (h : MapT P l B w g n f) (hb : Below w.heap.size w w') : MapT P l B w' g n f :=
  ⟨h.map.below hb, h.cnt, h.dom, fun id b hf => by
    obtain ⟨h1, T, x, r, h2, h3, h4⟩ := h.at_ id b hf
    exact ⟨h1, T, x, r, h2, h3, h4.below hb h4.lt⟩, h.inj⟩
theorem MapT.made (P : List (List I3)) (B : Nat) (w : World) : MapT P [] B (w.alloc (.map #[] 0)) w.heap.size 0 fun _ => none :=
  ⟨PMap.made w, Nat.le_refl _, fun _ => ⟨fun _ => rfl, fun _ => rfl⟩, fun _ _ h => (by cases h), fun _ _ _ h => (by cases h)⟩
/-- What is known of a task of the map. -/
theorem MapT.task (h : MapT P l B w g n f) (hP : okL P) {id : Int} (hf : f id = some b) :
    B ≤ b ∧ ∃ T y r, ofR l id = r ++ [y] ∧ oneT P (ofR l id) = some T ∧ Bk w b 58 (tkc T y) ∧ okT T ∧ (y.1 = 2 → T.st = 1) ∧ 0 ≤ T.pg ∧ T.pg < P.length := by
  obtain ⟨h1, T, y, r, h2, h3, h4⟩ := h.at_ id b hf
  have hne : ofR l id ≠ [] := by rw [h2]; simp
  have hpos : 0 < (ofR l id).length := by rw [h2]; simp
  have L := life_all hP hpos h3
  refine ⟨h1, T, y, r, h2, h3, h4, one_ok hne h3, fun hy => ?_, L.who.2.2.1, L.who.2.2.2⟩
  have hl : ith (ofR l id) ((ofR l id).length - 1) = y := by
    rw [h2, ith_get (by simp)]
    simp
  have := L.st
  rw [hl, hy] at this
  rcases this with ⟨-, e⟩ | ⟨e, -⟩ | ⟨e, -⟩
  · exact e
  · exact absurd e (by decide)
  · omega
/-- One more event of a task that was born. -/
theorem one_more {r : List I3} {y : I3} {T : Tk} (h2 : ofR l x.2.1 = r ++ [y]) (h3 : oneT P (ofR l x.2.1) = some T) : oneT P (ofR l x.2.1 ++ [x]) = stepT P T y x := by
  cases hc : ofR l x.2.1 with
  | nil => rw [hc] at h2; simp at h2
  | cons z s =>
    rw [hc] at h2 h3
    rw [oneT_snoc h3, h2]
    congr 1
    rw [List.getLastD_eq_getLast?, List.getLast?_append]
    rfl
theorem ofR_snoc (l : List I3) (x : I3) (id : Int) : ofR (l ++ [x]) id = if x.2.1 = id then ofR l id ++ [x] else ofR l id := by
  rw [ofR_app, ofR_one]
  split <;> simp
theorem MapT.step (h : MapT P l B w g n f) (hf : f x.2.1 = some b) (hgb : g < B) {U : Tk} (hU : oneT P (ofR l x.2.1 ++ [x]) = some U) (hg : w.grownBy w' (some b)) (hk : Bk w' b 58 (tkc U x)) : MapT P (l ++ [x]) B w' g n f := by
  have hbB := (h.at_ _ _ hf).1
  refine ⟨h.map.grown hg (by intro e; injection e with e; omega), by rw [List.length_append]; have := h.cnt; omega, fun id => ?_, fun id b' hb' => ?_, h.inj⟩
  · rw [ofR_snoc]
    split
    · next e => subst e; rw [hf]; simp
    · exact h.dom id
  · by_cases e : x.2.1 = id
    · subst e
      rw [hf] at hb'
      injection hb' with hb'
      subst hb'
      rw [ofR_snoc, if_pos rfl]
      exact ⟨hbB, U, x, _, rfl, hU, hk⟩
    · obtain ⟨h1, T, y, r, h2, h3, h4⟩ := h.at_ id b' hb'
      rw [ofR_snoc, if_neg e]
      refine ⟨h1, T, y, r, h2, h3, h4.grown hg ?_⟩
      intro q
      injection q with q
      subst q
      exact e (h.inj _ _ _ hf hb')
theorem MapT.born (h : MapT P l B w g n f) (hf : f x.2.1 = none) (hs : B ≤ w.heap.size) (hgb : g < B) {U : Tk} (hU : oneT P [x] = some U) {nb : Nat} (hnb : w.heap.size ≤ nb) (hm : PMap w' g (n + 1) (updP f x.2.1 nb)) (hg : w.grownBy w' (some g)) (hk : Bk w' nb 58 (tkc U x)) :
    MapT P (l ++ [x]) B w' g (n + 1) (updP f x.2.1 nb) := by
  have h0 := (h.dom _).1 hf
  refine ⟨hm, by rw [List.length_append]; have := h.cnt; simp; omega, fun id => ?_, fun id b' hb' => ?_, fun i j b' hi hj => ?_⟩
  · rw [ofR_snoc]
    unfold updP
    by_cases e : id = x.2.1
    · subst e; simp
    · rw [if_neg e, if_neg (fun q => e q.symm)]; exact h.dom id
  · unfold updP at hb'
    by_cases e : id = x.2.1
    · subst e
      rw [if_pos rfl] at hb'
      injection hb' with hb'
      subst hb'
      rw [ofR_snoc, if_pos rfl, h0]
      exact ⟨by omega, U, x, [], rfl, hU, hk⟩
    · rw [if_neg e] at hb'
      obtain ⟨h1, T, y, r, h2, h3, h4⟩ := h.at_ id b' hb'
      rw [ofR_snoc, if_neg (fun q => e q.symm)]
      exact ⟨h1, T, y, r, h2, h3, h4.grown hg (by intro q; injection q with q; omega)⟩
  · have lt : ∀ i, f i = some b' → b' < w.heap.size := fun i hi => by
      obtain ⟨-, T, y, r, -, -, h4⟩ := h.at_ i b' hi
      exact h4.lt
    unfold updP at hi hj
    by_cases ei : i = x.2.1
    · by_cases ej : j = x.2.1
      · rw [ei, ej]
      · rw [if_pos ei] at hi
        rw [if_neg ej] at hj
        injection hi with hi
        have := lt j hj
        omega
    · rw [if_neg ei] at hi
      by_cases ej : j = x.2.1
      · rw [if_pos ej] at hj
        injection hj with hj
        have := lt i hi
        omega
      · rw [if_neg ej] at hj
        exact h.inj _ _ _ hi hj
/-- A birth of what was born, and one more event of what was not, may not come. -/
theorem one_birth {r : List I3} {y : I3} {T : Tk} (h2 : ofR l x.2.1 = r ++ [y]) (h3 : oneT P (ofR l x.2.1) = some T) (hx : x.1 = 1) : oneT P (ofR l x.2.1 ++ [x]) = none := by
  rw [one_more h2 h3]
  cases e : stepT P T y x with
  | none => rfl
  | some u => have := step_kind e; omega
theorem one_new : oneT P [x] = bornT P x := by
  rw [oneT]
  cases bornT P x <;> rfl
theorem one_unborn (hx : x.1 ≠ 1) : oneT P [x] = none := by
  rw [one_new]
  exact if_neg (fun q => hx q.1)
end

end Go.Proofs.YtfhlligcbpnkkaaDoor

/-
  Small lemmas on a block of five cells, and of how the first variable of a function lies. Over no program.
-/
namespace Go.Proofs.YtfhlligcbpnkkaaDoor
open Go.RowKit

theorem lay1 (w : World) (x : Array Value) (t : TypeId) : Bk (w.alloc (.cells x t)) w.heap.size t x ∧ Below w.heap.size w (w.alloc (.cells x t)) := ⟨Bk.new w t x, (Below.refl w.heap.size w).alloc (Nat.le_refl _) _⟩
section
variable {w W : World} {g : Nat} {t : TypeId} {c0 c1 c2 c3 c4 : Value}
theorem Bk.c5 (h : Bk w g t #[c0, c1, c2, c3, c4]) : w.cell? ⟨g, 0, none⟩ = some c0 ∧ w.cell? ⟨g, 1, none⟩ = some c1 ∧ w.cell? ⟨g, 2, none⟩ = some c2 ∧ w.cell? ⟨g, 3, none⟩ = some c3 ∧ w.cell? ⟨g, 4, none⟩ = some c4 := ⟨h.cell 0, h.cell 1, h.cell 2, h.cell 3, h.cell 4⟩
theorem Bk.f5 {cs : Array Value} (h : Bk w g t cs) : w.frozen? ⟨g, 0, none⟩ = false ∧ w.frozen? ⟨g, 1, none⟩ = false ∧ w.frozen? ⟨g, 2, none⟩ = false ∧ w.frozen? ⟨g, 3, none⟩ = false ∧ w.frozen? ⟨g, 4, none⟩ = false := ⟨h.frozen 0, h.frozen 1, h.frozen 2, h.frozen 3, h.frozen 4⟩
end

end Go.Proofs.YtfhlligcbpnkkaaDoor

/-
  Layer 18, the program: a birth, and one more event.
-/
namespace Go.Proofs.YtfhlligcbpnkkaaDoor
open Go.RowKit

/-- What a birth asks. -/
def bearR (f : Int → Option Nat) (np : Nat) (x : I3) : Option Tk := if f x.2.1 = none ∧ okT (newT x.2.1 0 x.2.2) ∧ x.2.2 < np then some (newT x.2.1 0 x.2.2) else none
def BearP (g n : Nat) (f : Int → Option Nat) (r : Option Tk) (x : I3) (w : World) (e : Ending) (w' : World) : Prop :=
  e = .returned (.bool r.isSome) ∧ w.grownBy w' (some g) ∧ ∀ T, r = some T → ∃ nb, w.heap.size ≤ nb ∧ PMap w' g (n + 1) (updP f x.2.1 nb) ∧ Bk w' nb 58 (tkc T x)
theorem bear_no {g n : Nat} {f : Int → Option Nat} {r : Option Tk} {x : I3} {w w' : World} (hr : r = none) (hb : Below w.heap.size w w') : BearP g n f r x w (.returned (.bool false)) w' := by
  subst hr
  exact ⟨rfl, gr_of hb _, fun T h => (by cases h)⟩
theorem bear_yes {g n nb : Nat} {f : Int → Option Nat} {r : Option Tk} {T : Tk} {x : I3} {w w' : World} (hr : r = some T) (hg : w.grownBy w' (some g)) (hs : w.heap.size ≤ nb) (hm : PMap w' g (n + 1) (updP f x.2.1 nb)) (hk : Bk w' nb 58 (tkc T x)) : BearP g n f r x w (.returned (.bool true)) w' := by
  subst hr
  exact ⟨rfl, hg, fun U h => ⟨nb, hs, hm, (Option.some.inj h) ▸ hk⟩⟩

set_option maxHeartbeats 4000000 in
theorem bear_tp (g n : Nat) (f : Int → Option Nat) (np : Nat) (x : I3) (w : World) (hM : PMap w g n f) (hx : Fit x.2.1) (hn0 : n < 100000) :
    Calls Tryd.prog 43 #[.map (some g), .int .i64 (np : Int), .agg #[.int .i64 x.1, .int .i64 x.2.1, .int .i64 x.2.2]] w (BearP g n f (bearR f np x) x w) := by
  obtain ⟨kd, xi, xa⟩ := x
  dsimp only at hx
  have HM0 := Lib.hid hM
  have HFX := Lib.hid hx
  have HN := Lib.hid hn0
  clear hM hx hn0
  dsimp only
  by_cases hn : okT (newT xi 0 xa)
  · cases hf : f xi with
    | none =>
      by_cases h2 : xa < np
      · have HF := Lib.hid hf
        have HYES : Hid (bearR f np (kd, xi, xa) = some (newT xi 0 xa)) := Lib.hid (if_pos ⟨hf, hn, h2⟩)
        have HNW : Hid (newR xi 0 xa = (0, newT xi 0 xa)) := Lib.hid (by unfold newR; rw [if_pos hn])
        have t1 : decide ((np : Int) ≤ xa) = false := decide_eq_false (by omega)
        clear hf hn h2
        obtain ⟨kb0, hb0⟩ := lies1 w #[.int .i64 kd, .int .i64 xi, .int .i64 xa] 41
        obtain ⟨V, hV⟩ : ∃ V, w.alloc (.cells #[.int .i64 kd, .int .i64 xi, .int .i64 xa] 41) = V := ⟨_, rfl⟩
        rw [hV] at hb0 kb0
        have HV := Lib.hid hV
        have BB := Lib.hid hb0
        have KE := Lib.hid kb0
        have HBE : Hid (w.heap.size ≤ w.heap.size) := Lib.hid (by omega)
        clear hV hb0 kb0
        go_enter Tryd.func43, Tryd.ntmps43
        go_upto_region 1 with fail
        rw [HV.out]
        clear HV
        have HM := Lib.hid (HM0.out.below BB.out)
        obtain ⟨qE_0, qE_1, qE_2⟩ := KE.out.c3
        have lE := KE.out.lt
        go_wp2_with fail
        refine (new_any xi 0 xa _).mono ?_
        rw [HNW.out]
        rintro e U1 ⟨rfl, bU1⟩
        clear qE_0 qE_1 qE_2 lE
        replace BB := Lib.hid (below3 BB.out bU1)
        replace KE := Lib.hid (KE.out.below bU1 KE.out.lt)
        replace HM := Lib.hid (HM.out.below bU1)
        clear bU1
        dsimp only [tc, newT, zT]
        have kn := Bk.new U1 44 #[.int .i64 xi, .int .i64 0, .int .i64 xa, .int .i64 0, .int .i64 0, .int .i64 ((-1)), .int .i64 ((-1)), .int .i64 ((-1)), .int .i64 ((-1)), .int .i64 1, .int .i64 0]
        have ba := (Below.refl U1.heap.size U1).alloc (Nat.le_refl _) (.cells #[.int .i64 xi, .int .i64 0, .int .i64 xa, .int .i64 0, .int .i64 0, .int .i64 ((-1)), .int .i64 ((-1)), .int .i64 ((-1)), .int .i64 ((-1)), .int .i64 1, .int .i64 0] 44)
        have hgb := BB.out.size
        have nE_N := Nat.ne_of_lt KE.out.lt
        replace BB := Lib.hid (below3 BB.out ba)
        replace KE := Lib.hid (KE.out.below ba KE.out.lt)
        replace HM := Lib.hid (HM.out.below ba)
        obtain ⟨gN, hg⟩ : ∃ g, U1.heap.size = g := ⟨_, rfl⟩
        obtain ⟨V2, hW⟩ : ∃ W, U1.alloc (.cells #[.int .i64 xi, .int .i64 0, .int .i64 xa, .int .i64 0, .int .i64 0, .int .i64 ((-1)), .int .i64 ((-1)), .int .i64 ((-1)), .int .i64 ((-1)), .int .i64 1, .int .i64 0] 44) = W := ⟨_, rfl⟩
        have KN := Lib.hid kn
        rw [hW] at BB KN KE HM
        rw [hg] at KN hgb nE_N
        have HGN := Lib.hid hg
        have HWN := Lib.hid hW
        have HBN := Lib.hid hgb
        have NE_N := Lib.hid nE_N
        clear hW hg kn ba hgb nE_N
        go_upto_region 2 with fail
        rw [HWN.out]
        try rw [HGN.out]
        clear HWN HGN
        obtain ⟨qE_0, qE_1, qE_2⟩ := KE.out.c3
        have lE := KE.out.lt
        have hl := HM.out.look HFX.out
        rw [HF.out] at hl
        simp only [ptrV, Option.isSome] at hl
        go_upto_region 5 with fail
        clear hl
        clear qE_0 qE_1 qE_2 lE
        have kx := Bk.new V2 58 #[.int .i64 xi, .int .i64 0, .int .i64 xa, .int .i64 0, .int .i64 0, .int .i64 ((-1)), .int .i64 ((-1)), .int .i64 ((-1)), .int .i64 ((-1)), .int .i64 1, .int .i64 0, .int .i64 kd, .int .i64 xi, .int .i64 xa]
        have bx := (Below.refl V2.heap.size V2).alloc (Nat.le_refl _) (.cells #[.int .i64 xi, .int .i64 0, .int .i64 xa, .int .i64 0, .int .i64 0, .int .i64 ((-1)), .int .i64 ((-1)), .int .i64 ((-1)), .int .i64 ((-1)), .int .i64 1, .int .i64 0, .int .i64 kd, .int .i64 xi, .int .i64 xa] 58)
        obtain ⟨W9, hu, hm, hgg⟩ := (HM.out.below bx).put HFX.out V2.heap.size HN.out
        have hne := Nat.ne_of_lt HM.out.lt
        have HK := Lib.hid (kx.grown hgg (fun e => hne (Option.some.inj e).symm))
        have HG := Lib.hid (gr_trans (gr_of (below3 BB.out bx) (some g)) hgg)
        have HSZ := Lib.hid BB.out.size
        have HMM := Lib.hid hm
        clear kx bx hgg hne hm
        obtain ⟨qE_0, qE_1, qE_2⟩ := KE.out.c3
        have lE := KE.out.lt
        obtain ⟨qN_0, qN_1, qN_2, qN_3, qN_4, qN_5, qN_6, qN_7, qN_8, qN_9, qN_10⟩ := KN.out.c11
        have lN := KN.out.lt
        go_wp2_with fail
        go_ret
        exact bear_yes HYES.out HG.out HSZ.out HMM.out HK.out
      · have HF := Lib.hid hf
        have HNO : Hid (bearR f np (kd, xi, xa) = none) := Lib.hid (if_neg (fun q => h2 q.2.2))
        have HNW : Hid (newR xi 0 xa = (0, newT xi 0 xa)) := Lib.hid (by unfold newR; rw [if_pos hn])
        have t1 : decide ((np : Int) ≤ xa) = true := decide_eq_true (by omega)
        clear hf hn h2
        obtain ⟨kb0, hb0⟩ := lies1 w #[.int .i64 kd, .int .i64 xi, .int .i64 xa] 41
        obtain ⟨V, hV⟩ : ∃ V, w.alloc (.cells #[.int .i64 kd, .int .i64 xi, .int .i64 xa] 41) = V := ⟨_, rfl⟩
        rw [hV] at hb0 kb0
        have HV := Lib.hid hV
        have BB := Lib.hid hb0
        have KE := Lib.hid kb0
        have HBE : Hid (w.heap.size ≤ w.heap.size) := Lib.hid (by omega)
        clear hV hb0 kb0
        go_enter Tryd.func43, Tryd.ntmps43
        go_upto_region 1 with fail
        rw [HV.out]
        clear HV
        have HM := Lib.hid (HM0.out.below BB.out)
        obtain ⟨qE_0, qE_1, qE_2⟩ := KE.out.c3
        have lE := KE.out.lt
        go_wp2_with fail
        refine (new_any xi 0 xa _).mono ?_
        rw [HNW.out]
        rintro e U1 ⟨rfl, bU1⟩
        clear qE_0 qE_1 qE_2 lE
        replace BB := Lib.hid (below3 BB.out bU1)
        replace KE := Lib.hid (KE.out.below bU1 KE.out.lt)
        replace HM := Lib.hid (HM.out.below bU1)
        clear bU1
        dsimp only [tc, newT, zT]
        have kn := Bk.new U1 44 #[.int .i64 xi, .int .i64 0, .int .i64 xa, .int .i64 0, .int .i64 0, .int .i64 ((-1)), .int .i64 ((-1)), .int .i64 ((-1)), .int .i64 ((-1)), .int .i64 1, .int .i64 0]
        have ba := (Below.refl U1.heap.size U1).alloc (Nat.le_refl _) (.cells #[.int .i64 xi, .int .i64 0, .int .i64 xa, .int .i64 0, .int .i64 0, .int .i64 ((-1)), .int .i64 ((-1)), .int .i64 ((-1)), .int .i64 ((-1)), .int .i64 1, .int .i64 0] 44)
        have hgb := BB.out.size
        have nE_N := Nat.ne_of_lt KE.out.lt
        replace BB := Lib.hid (below3 BB.out ba)
        replace KE := Lib.hid (KE.out.below ba KE.out.lt)
        replace HM := Lib.hid (HM.out.below ba)
        obtain ⟨gN, hg⟩ : ∃ g, U1.heap.size = g := ⟨_, rfl⟩
        obtain ⟨V2, hW⟩ : ∃ W, U1.alloc (.cells #[.int .i64 xi, .int .i64 0, .int .i64 xa, .int .i64 0, .int .i64 0, .int .i64 ((-1)), .int .i64 ((-1)), .int .i64 ((-1)), .int .i64 ((-1)), .int .i64 1, .int .i64 0] 44) = W := ⟨_, rfl⟩
        have KN := Lib.hid kn
        rw [hW] at BB KN KE HM
        rw [hg] at KN hgb nE_N
        have HGN := Lib.hid hg
        have HWN := Lib.hid hW
        have HBN := Lib.hid hgb
        have NE_N := Lib.hid nE_N
        clear hW hg kn ba hgb nE_N
        go_upto_region 2 with fail
        rw [HWN.out]
        try rw [HGN.out]
        clear HWN HGN
        obtain ⟨qE_0, qE_1, qE_2⟩ := KE.out.c3
        have lE := KE.out.lt
        have hl := HM.out.look HFX.out
        rw [HF.out] at hl
        simp only [ptrV, Option.isSome] at hl
        go_wp2_with fail
        go_ret
        exact bear_no HNO.out BB.out
    | some gb =>
      have HF := Lib.hid hf
      have HNO : Hid (bearR f np (kd, xi, xa) = none) := Lib.hid (if_neg (fun q => by rw [show f xi = none from q.1] at hf; cases hf))
      have HNW : Hid (newR xi 0 xa = (0, newT xi 0 xa)) := Lib.hid (by unfold newR; rw [if_pos hn])
      clear hf hn
      obtain ⟨kb0, hb0⟩ := lies1 w #[.int .i64 kd, .int .i64 xi, .int .i64 xa] 41
      obtain ⟨V, hV⟩ : ∃ V, w.alloc (.cells #[.int .i64 kd, .int .i64 xi, .int .i64 xa] 41) = V := ⟨_, rfl⟩
      rw [hV] at hb0 kb0
      have HV := Lib.hid hV
      have BB := Lib.hid hb0
      have KE := Lib.hid kb0
      have HBE : Hid (w.heap.size ≤ w.heap.size) := Lib.hid (by omega)
      clear hV hb0 kb0
      go_enter Tryd.func43, Tryd.ntmps43
      go_upto_region 1 with fail
      rw [HV.out]
      clear HV
      have HM := Lib.hid (HM0.out.below BB.out)
      obtain ⟨qE_0, qE_1, qE_2⟩ := KE.out.c3
      have lE := KE.out.lt
      go_wp2_with fail
      refine (new_any xi 0 xa _).mono ?_
      rw [HNW.out]
      rintro e U1 ⟨rfl, bU1⟩
      clear qE_0 qE_1 qE_2 lE
      replace BB := Lib.hid (below3 BB.out bU1)
      replace KE := Lib.hid (KE.out.below bU1 KE.out.lt)
      replace HM := Lib.hid (HM.out.below bU1)
      clear bU1
      dsimp only [tc, newT, zT]
      have kn := Bk.new U1 44 #[.int .i64 xi, .int .i64 0, .int .i64 xa, .int .i64 0, .int .i64 0, .int .i64 ((-1)), .int .i64 ((-1)), .int .i64 ((-1)), .int .i64 ((-1)), .int .i64 1, .int .i64 0]
      have ba := (Below.refl U1.heap.size U1).alloc (Nat.le_refl _) (.cells #[.int .i64 xi, .int .i64 0, .int .i64 xa, .int .i64 0, .int .i64 0, .int .i64 ((-1)), .int .i64 ((-1)), .int .i64 ((-1)), .int .i64 ((-1)), .int .i64 1, .int .i64 0] 44)
      have hgb := BB.out.size
      have nE_N := Nat.ne_of_lt KE.out.lt
      replace BB := Lib.hid (below3 BB.out ba)
      replace KE := Lib.hid (KE.out.below ba KE.out.lt)
      replace HM := Lib.hid (HM.out.below ba)
      obtain ⟨gN, hg⟩ : ∃ g, U1.heap.size = g := ⟨_, rfl⟩
      obtain ⟨V2, hW⟩ : ∃ W, U1.alloc (.cells #[.int .i64 xi, .int .i64 0, .int .i64 xa, .int .i64 0, .int .i64 0, .int .i64 ((-1)), .int .i64 ((-1)), .int .i64 ((-1)), .int .i64 ((-1)), .int .i64 1, .int .i64 0] 44) = W := ⟨_, rfl⟩
      have KN := Lib.hid kn
      rw [hW] at BB KN KE HM
      rw [hg] at KN hgb nE_N
      have HGN := Lib.hid hg
      have HWN := Lib.hid hW
      have HBN := Lib.hid hgb
      have NE_N := Lib.hid nE_N
      clear hW hg kn ba hgb nE_N
      go_upto_region 2 with fail
      rw [HWN.out]
      try rw [HGN.out]
      clear HWN HGN
      obtain ⟨qE_0, qE_1, qE_2⟩ := KE.out.c3
      have lE := KE.out.lt
      have hl := HM.out.look HFX.out
      rw [HF.out] at hl
      simp only [ptrV, Option.isSome] at hl
      go_wp2_with fail
      go_ret
      exact bear_no HNO.out BB.out
  · cases hf : f xi with
    | none =>
      have HF := Lib.hid hf
      have HNO : Hid (bearR f np (kd, xi, xa) = none) := Lib.hid (if_neg (fun q => hn q.2.1))
      have HNW : Hid (newR xi 0 xa = (1, zT)) := Lib.hid (by unfold newR; rw [if_neg hn])
      clear hf hn
      obtain ⟨kb0, hb0⟩ := lies1 w #[.int .i64 kd, .int .i64 xi, .int .i64 xa] 41
      obtain ⟨V, hV⟩ : ∃ V, w.alloc (.cells #[.int .i64 kd, .int .i64 xi, .int .i64 xa] 41) = V := ⟨_, rfl⟩
      rw [hV] at hb0 kb0
      have HV := Lib.hid hV
      have BB := Lib.hid hb0
      have KE := Lib.hid kb0
      have HBE : Hid (w.heap.size ≤ w.heap.size) := Lib.hid (by omega)
      clear hV hb0 kb0
      go_enter Tryd.func43, Tryd.ntmps43
      go_upto_region 1 with fail
      rw [HV.out]
      clear HV
      have HM := Lib.hid (HM0.out.below BB.out)
      obtain ⟨qE_0, qE_1, qE_2⟩ := KE.out.c3
      have lE := KE.out.lt
      go_wp2_with fail
      refine (new_any xi 0 xa _).mono ?_
      rw [HNW.out]
      rintro e U1 ⟨rfl, bU1⟩
      clear qE_0 qE_1 qE_2 lE
      replace BB := Lib.hid (below3 BB.out bU1)
      replace KE := Lib.hid (KE.out.below bU1 KE.out.lt)
      replace HM := Lib.hid (HM.out.below bU1)
      clear bU1
      dsimp only [tc, newT, zT]
      have kn := Bk.new U1 44 #[.int .i64 0, .int .i64 0, .int .i64 0, .int .i64 0, .int .i64 0, .int .i64 0, .int .i64 0, .int .i64 0, .int .i64 0, .int .i64 0, .int .i64 0]
      have ba := (Below.refl U1.heap.size U1).alloc (Nat.le_refl _) (.cells #[.int .i64 0, .int .i64 0, .int .i64 0, .int .i64 0, .int .i64 0, .int .i64 0, .int .i64 0, .int .i64 0, .int .i64 0, .int .i64 0, .int .i64 0] 44)
      have hgb := BB.out.size
      have nE_N := Nat.ne_of_lt KE.out.lt
      replace BB := Lib.hid (below3 BB.out ba)
      replace KE := Lib.hid (KE.out.below ba KE.out.lt)
      replace HM := Lib.hid (HM.out.below ba)
      obtain ⟨gN, hg⟩ : ∃ g, U1.heap.size = g := ⟨_, rfl⟩
      obtain ⟨V2, hW⟩ : ∃ W, U1.alloc (.cells #[.int .i64 0, .int .i64 0, .int .i64 0, .int .i64 0, .int .i64 0, .int .i64 0, .int .i64 0, .int .i64 0, .int .i64 0, .int .i64 0, .int .i64 0] 44) = W := ⟨_, rfl⟩
      have KN := Lib.hid kn
      rw [hW] at BB KN KE HM
      rw [hg] at KN hgb nE_N
      have HGN := Lib.hid hg
      have HWN := Lib.hid hW
      have HBN := Lib.hid hgb
      have NE_N := Lib.hid nE_N
      clear hW hg kn ba hgb nE_N
      go_upto_region 2 with fail
      rw [HWN.out]
      try rw [HGN.out]
      clear HWN HGN
      obtain ⟨qE_0, qE_1, qE_2⟩ := KE.out.c3
      have lE := KE.out.lt
      have hl := HM.out.look HFX.out
      rw [HF.out] at hl
      simp only [ptrV, Option.isSome] at hl
      go_wp2_with fail
      go_ret
      exact bear_no HNO.out BB.out
    | some gb =>
      have HF := Lib.hid hf
      have HNO : Hid (bearR f np (kd, xi, xa) = none) := Lib.hid (if_neg (fun q => by rw [show f xi = none from q.1] at hf; cases hf))
      have HNW : Hid (newR xi 0 xa = (1, zT)) := Lib.hid (by unfold newR; rw [if_neg hn])
      clear hf hn
      obtain ⟨kb0, hb0⟩ := lies1 w #[.int .i64 kd, .int .i64 xi, .int .i64 xa] 41
      obtain ⟨V, hV⟩ : ∃ V, w.alloc (.cells #[.int .i64 kd, .int .i64 xi, .int .i64 xa] 41) = V := ⟨_, rfl⟩
      rw [hV] at hb0 kb0
      have HV := Lib.hid hV
      have BB := Lib.hid hb0
      have KE := Lib.hid kb0
      have HBE : Hid (w.heap.size ≤ w.heap.size) := Lib.hid (by omega)
      clear hV hb0 kb0
      go_enter Tryd.func43, Tryd.ntmps43
      go_upto_region 1 with fail
      rw [HV.out]
      clear HV
      have HM := Lib.hid (HM0.out.below BB.out)
      obtain ⟨qE_0, qE_1, qE_2⟩ := KE.out.c3
      have lE := KE.out.lt
      go_wp2_with fail
      refine (new_any xi 0 xa _).mono ?_
      rw [HNW.out]
      rintro e U1 ⟨rfl, bU1⟩
      clear qE_0 qE_1 qE_2 lE
      replace BB := Lib.hid (below3 BB.out bU1)
      replace KE := Lib.hid (KE.out.below bU1 KE.out.lt)
      replace HM := Lib.hid (HM.out.below bU1)
      clear bU1
      dsimp only [tc, newT, zT]
      have kn := Bk.new U1 44 #[.int .i64 0, .int .i64 0, .int .i64 0, .int .i64 0, .int .i64 0, .int .i64 0, .int .i64 0, .int .i64 0, .int .i64 0, .int .i64 0, .int .i64 0]
      have ba := (Below.refl U1.heap.size U1).alloc (Nat.le_refl _) (.cells #[.int .i64 0, .int .i64 0, .int .i64 0, .int .i64 0, .int .i64 0, .int .i64 0, .int .i64 0, .int .i64 0, .int .i64 0, .int .i64 0, .int .i64 0] 44)
      have hgb := BB.out.size
      have nE_N := Nat.ne_of_lt KE.out.lt
      replace BB := Lib.hid (below3 BB.out ba)
      replace KE := Lib.hid (KE.out.below ba KE.out.lt)
      replace HM := Lib.hid (HM.out.below ba)
      obtain ⟨gN, hg⟩ : ∃ g, U1.heap.size = g := ⟨_, rfl⟩
      obtain ⟨V2, hW⟩ : ∃ W, U1.alloc (.cells #[.int .i64 0, .int .i64 0, .int .i64 0, .int .i64 0, .int .i64 0, .int .i64 0, .int .i64 0, .int .i64 0, .int .i64 0, .int .i64 0, .int .i64 0] 44) = W := ⟨_, rfl⟩
      have KN := Lib.hid kn
      rw [hW] at BB KN KE HM
      rw [hg] at KN hgb nE_N
      have HGN := Lib.hid hg
      have HWN := Lib.hid hW
      have HBN := Lib.hid hgb
      have NE_N := Lib.hid nE_N
      clear hW hg kn ba hgb nE_N
      go_upto_region 2 with fail
      rw [HWN.out]
      try rw [HGN.out]
      clear HWN HGN
      obtain ⟨qE_0, qE_1, qE_2⟩ := KE.out.c3
      have lE := KE.out.lt
      have hl := HM.out.look HFX.out
      rw [HF.out] at hl
      simp only [ptrV, Option.isSome] at hl
      go_wp2_with fail
      go_ret
      exact bear_no HNO.out BB.out

/-- One more event of all. -/
def ComeP (P : List (List I3)) (l : List I3) (x : I3) (B g : Nat) (w : World) (e : Ending) (w' : World) : Prop :=
  e = .returned (.bool (oneT P (ofR l x.2.1 ++ [x])).isSome) ∧ Bt B g w w' ∧ ((oneT P (ofR l x.2.1 ++ [x])).isSome = true → ∃ n f, MapT P (l ++ [x]) B w' g n f)
theorem come_no {P : List (List I3)} {l : List I3} {x : I3} {B g : Nat} {w w' : World} (hr : oneT P (ofR l x.2.1 ++ [x]) = none) (hb : Bt B g w w') : ComeP P l x B g w (.returned (.bool false)) w' :=
  ⟨by rw [hr]; rfl, hb, fun h => by rw [hr] at h; cases h⟩
theorem come_yes {P : List (List I3)} {l : List I3} {x : I3} {B g n : Nat} {f : Int → Option Nat} {w w' : World} {T : Tk} (hr : oneT P (ofR l x.2.1 ++ [x]) = some T) (hb : Bt B g w w') (hm : MapT P (l ++ [x]) B w' g n f) : ComeP P l x B g w (.returned (.bool true)) w' :=
  ⟨by rw [hr]; rfl, hb, fun _ => ⟨n, f, hm⟩⟩

set_option maxHeartbeats 4000000 in
theorem come_born (P : List (List I3)) (l : List I3) (B g n : Nat) (f : Int → Option Nat) (F : Option Addr) (np cp : Nat) (x : I3) (w : World) (hF : Fol w) (hok : okL P) (hM : MapT P l B w g n f) (hg0 : g ≠ 0) (hgB : g < B) (hBs : B ≤ w.heap.size) (W0 : World) (hP : Prgs W0 F np P) (hW : Below W0.heap.size W0 w) (hWB : W0.heap.size ≤ B) (hWg : W0.heap.size ≤ g) (hx : FitI x) (hl : l.length < 100000) (h1 : x.1 = 1) :
    Calls Tryd.prog 34 #[.map (some g), .slice F np cp, .agg #[.int .i64 x.1, .int .i64 x.2.1, .int .i64 x.2.2]] w (ComeP P l x B g w) := by
  obtain ⟨kd, xi, xa⟩ := x
  have HFo := Lib.hid hF
  have HOK := Lib.hid hok
  have HM := Lib.hid hM
  have HG0 := Lib.hid hg0
  have HGB := Lib.hid hgB
  have HBS := Lib.hid hBs
  have HP := Lib.hid hP
  have HFX : Hid (Fit xi) := Lib.hid hx.2.1
  have HPL := Lib.hid hP.1
  have HW0 := Lib.hid hW
  have HWB := Lib.hid hWB
  have HWG := Lib.hid hWg
  have HNC : Hid (n < 100000) := Lib.hid (by have := hM.cnt; omega)
  clear hF hok hM hg0 hgB hBs hP hW hWB hWg hx hl
  dsimp only
  dsimp only at h1
  have t0 : (kd == 1) = true := by simpa using h1
  cases hf : f xi with
  | none =>
    have h0 : ofR l xi = [] := (HM.out.dom xi).1 hf
    have HFN := Lib.hid hf
    by_cases hq : okT (newT xi 0 xa) ∧ xa < np
    · have HB : Hid (bearR f np (kd, xi, xa) = some (newT xi 0 xa)) := Lib.hid (if_pos ⟨hf, hq⟩)
      have HR1 : Hid (oneT P [(kd, xi, xa)] = some (newT xi 0 xa)) := Lib.hid (by rw [one_new]; exact if_pos ⟨h1, hq.1, by rw [HPL.out]; exact hq.2⟩)
      have HR : Hid (oneT P (ofR l xi ++ [(kd, xi, xa)]) = some (newT xi 0 xa)) := Lib.hid (by rw [h0]; exact HR1.out)
      clear h1 hf h0 hq
      obtain ⟨kb0, hb0⟩ := lies1 w #[.int .i64 kd, .int .i64 xi, .int .i64 xa] 41
      obtain ⟨V, hV⟩ : ∃ V, w.alloc (.cells #[.int .i64 kd, .int .i64 xi, .int .i64 xa] 41) = V := ⟨_, rfl⟩
      rw [hV] at hb0 kb0
      have HV := Lib.hid hV
      have BB := Lib.hid hb0
      have KE := Lib.hid kb0
      have HBE : Hid (w.heap.size ≤ w.heap.size) := Lib.hid (by omega)
      clear hV hb0 kb0
      go_enter Tryd.func34, Tryd.ntmps34
      go_upto_region 1 with fail
      rw [HV.out]
      clear HV
      have HM1 := Lib.hid (HM.out.grown BB.out)
      obtain ⟨qE_0, qE_1, qE_2⟩ := KE.out.c3
      have lE := KE.out.lt
      go_wp2_with fail
      refine (bear_tp g n f np (kd, xi, xa) _ HM1.out.map HFX.out HNC.out).mono ?_
      unfold BearP
      rw [HB.out]
      dsimp only [Option.isSome]
      rintro e U ⟨rfl, hg, hu⟩
      clear qE_0 qE_1 qE_2 lE
      have HU := Lib.hid hu
      have HGR := Lib.hid hg
      clear hu hg
      go_wp2_with fail
      go_ret
      obtain ⟨nb, h1, h2, h3⟩ := HU.out _ rfl
      exact come_yes HR.out ((Bt.of_big BB.out HBS.out).trans (Bt.of_gr HGR.out (.inr rfl) (Nat.le_trans HBS.out BB.out.size))) (HM1.out.born HFN.out (Nat.le_trans HBS.out BB.out.size) HGB.out HR1.out h1 h2 HGR.out h3)
    · have HB : Hid (bearR f np (kd, xi, xa) = none) := Lib.hid (if_neg (fun q => hq q.2))
      have HR : Hid (oneT P (ofR l xi ++ [(kd, xi, xa)]) = none) := Lib.hid (by rw [h0]; show oneT P [(kd, xi, xa)] = none; rw [one_new]; exact if_neg (fun q => hq ⟨q.2.1, by have := q.2.2; rw [HPL.out] at this; exact this⟩))
      clear h1 hf h0 hq
      obtain ⟨kb0, hb0⟩ := lies1 w #[.int .i64 kd, .int .i64 xi, .int .i64 xa] 41
      obtain ⟨V, hV⟩ : ∃ V, w.alloc (.cells #[.int .i64 kd, .int .i64 xi, .int .i64 xa] 41) = V := ⟨_, rfl⟩
      rw [hV] at hb0 kb0
      have HV := Lib.hid hV
      have BB := Lib.hid hb0
      have KE := Lib.hid kb0
      have HBE : Hid (w.heap.size ≤ w.heap.size) := Lib.hid (by omega)
      clear hV hb0 kb0
      go_enter Tryd.func34, Tryd.ntmps34
      go_upto_region 1 with fail
      rw [HV.out]
      clear HV
      have HM1 := Lib.hid (HM.out.grown BB.out)
      obtain ⟨qE_0, qE_1, qE_2⟩ := KE.out.c3
      have lE := KE.out.lt
      go_wp2_with fail
      refine (bear_tp g n f np (kd, xi, xa) _ HM1.out.map HFX.out HNC.out).mono ?_
      unfold BearP
      rw [HB.out]
      dsimp only [Option.isSome]
      rintro e U ⟨rfl, hg, hu⟩
      clear qE_0 qE_1 qE_2 lE
      have HU := Lib.hid hu
      have HGR := Lib.hid hg
      clear hu hg
      go_wp2_with fail
      go_ret
      exact come_no HR.out ((Bt.of_big BB.out HBS.out).trans (Bt.of_gr HGR.out (.inr rfl) (Nat.le_trans HBS.out BB.out.size)))
  | some gb =>
    obtain ⟨-, T, y, r, h2, h3, -⟩ := HM.out.at_ xi gb hf
    have HB : Hid (bearR f np (kd, xi, xa) = none) := Lib.hid (if_neg (fun q => by rw [show f xi = none from q.1] at hf; cases hf))
    have HR : Hid (oneT P (ofR l xi ++ [(kd, xi, xa)]) = none) := Lib.hid (one_birth (x := (kd, xi, xa)) h2 h3 h1)
    clear h1 hf h2 h3
    obtain ⟨kb0, hb0⟩ := lies1 w #[.int .i64 kd, .int .i64 xi, .int .i64 xa] 41
    obtain ⟨V, hV⟩ : ∃ V, w.alloc (.cells #[.int .i64 kd, .int .i64 xi, .int .i64 xa] 41) = V := ⟨_, rfl⟩
    rw [hV] at hb0 kb0
    have HV := Lib.hid hV
    have BB := Lib.hid hb0
    have KE := Lib.hid kb0
    have HBE : Hid (w.heap.size ≤ w.heap.size) := Lib.hid (by omega)
    clear hV hb0 kb0
    go_enter Tryd.func34, Tryd.ntmps34
    go_upto_region 1 with fail
    rw [HV.out]
    clear HV
    have HM1 := Lib.hid (HM.out.grown BB.out)
    obtain ⟨qE_0, qE_1, qE_2⟩ := KE.out.c3
    have lE := KE.out.lt
    go_wp2_with fail
    refine (bear_tp g n f np (kd, xi, xa) _ HM1.out.map HFX.out HNC.out).mono ?_
    unfold BearP
    rw [HB.out]
    dsimp only [Option.isSome]
    rintro e U ⟨rfl, hg, hu⟩
    clear qE_0 qE_1 qE_2 lE
    have HU := Lib.hid hu
    have HGR := Lib.hid hg
    clear hu hg
    go_wp2_with fail
    go_ret
    exact come_no HR.out ((Bt.of_big BB.out HBS.out).trans (Bt.of_gr HGR.out (.inr rfl) (Nat.le_trans HBS.out BB.out.size)))

set_option maxHeartbeats 4000000 in
theorem come_none (P : List (List I3)) (l : List I3) (B g n : Nat) (f : Int → Option Nat) (F : Option Addr) (np cp : Nat) (x : I3) (w : World) (hF : Fol w) (hok : okL P) (hM : MapT P l B w g n f) (hg0 : g ≠ 0) (hgB : g < B) (hBs : B ≤ w.heap.size) (W0 : World) (hP : Prgs W0 F np P) (hW : Below W0.heap.size W0 w) (hWB : W0.heap.size ≤ B) (hWg : W0.heap.size ≤ g) (hx : FitI x) (hl : l.length < 100000) (h1 : x.1 ≠ 1) (hf : f x.2.1 = none) :
    Calls Tryd.prog 34 #[.map (some g), .slice F np cp, .agg #[.int .i64 x.1, .int .i64 x.2.1, .int .i64 x.2.2]] w (ComeP P l x B g w) := by
  obtain ⟨kd, xi, xa⟩ := x
  have HFo := Lib.hid hF
  have HOK := Lib.hid hok
  have HM := Lib.hid hM
  have HG0 := Lib.hid hg0
  have HGB := Lib.hid hgB
  have HBS := Lib.hid hBs
  have HP := Lib.hid hP
  have HFX : Hid (Fit xi) := Lib.hid hx.2.1
  have HPL := Lib.hid hP.1
  have HW0 := Lib.hid hW
  have HWB := Lib.hid hWB
  have HWG := Lib.hid hWg
  have HNC : Hid (n < 100000) := Lib.hid (by have := hM.cnt; omega)
  clear hF hok hM hg0 hgB hBs hP hW hWB hWg hx hl
  dsimp only
  dsimp only at h1 hf
  have t0 : (kd == 1) = false := by simpa using h1
  have h0 : ofR l xi = [] := (HM.out.dom xi).1 hf
  have HFN := Lib.hid hf
  have HR : Hid (oneT P (ofR l xi ++ [(kd, xi, xa)]) = none) := Lib.hid (by rw [h0]; exact one_unborn h1)
  clear h1 hf h0
  obtain ⟨kb0, hb0⟩ := lies1 w #[.int .i64 kd, .int .i64 xi, .int .i64 xa] 41
  obtain ⟨V, hV⟩ : ∃ V, w.alloc (.cells #[.int .i64 kd, .int .i64 xi, .int .i64 xa] 41) = V := ⟨_, rfl⟩
  rw [hV] at hb0 kb0
  have HV := Lib.hid hV
  have BB := Lib.hid hb0
  have KE := Lib.hid kb0
  have HBE : Hid (w.heap.size ≤ w.heap.size) := Lib.hid (by omega)
  clear hV hb0 kb0
  go_enter Tryd.func34, Tryd.ntmps34
  go_upto_region 1 with fail
  rw [HV.out]
  clear HV
  have HM1 := Lib.hid (HM.out.grown BB.out)
  have hlk := HM1.out.map.look HFX.out
  rw [HFN.out] at hlk
  simp only [ptrV, Option.isSome] at hlk
  obtain ⟨qE_0, qE_1, qE_2⟩ := KE.out.c3
  have lE := KE.out.lt
  go_upto_region 4 with fail
  clear hlk
  clear qE_0 qE_1 qE_2 lE
  go_region
  go_wp2_with fail
  go_ret
  exact come_no HR.out (Bt.of_big BB.out.drew HBS.out)

end Go.Proofs.YtfhlligcbpnkkaaDoor

/-
  A region that draws its order, in a round of a range over a function, that holds loads, stores and addresses alone: walked as outside of rounds. Over no program.
-/
namespace Go.Proofs.YtfhlligcbpnkkaaDoor
open Go.RowKit

/-- It reads, writes, or reckons an address. -/
def plainOp : Op → Bool
  | .move _ | .assign _ | .load _ _ | .store _ _ _ | .fieldAddr _ _ _ | .indexAddr _ _ _ | .binOp _ _ _ _ _ | .unOp _ _ _ | .pick _ _ _ => true
  | _ => false

variable {P : Program}
theorem plain_run {o : Oper} (h : plainOp o.op = true) (ρ : Operand → Value) (w : World) :
    (∃ v w', (execOp ρ o).run P w = .ok (.value v) w') ∨ (∃ w', (execOp ρ o).run P w = .ok .skip w') ∨ (∃ x w', (execOp ρ o).run P w = .halt x w') := by
  have hb : ∀ s : Sem Value, (∃ v w', (do let x ← s; pure (Next.value x) : Sem Next).run P w = .ok (.value v) w') ∨ (∃ w', (do let x ← s; pure (Next.value x) : Sem Next).run P w = .ok .skip w') ∨ (∃ x w', (do let x ← s; pure (Next.value x) : Sem Next).run P w = .halt x w') := by
    intro s
    simp only [Sem.run_bind, Sem.run_pure]
    cases s.run P w with
    | ok v w' => exact .inl ⟨v, w', rfl⟩
    | halt x w' => exact .inr (.inr ⟨x, w', rfl⟩)
  have hu : ∀ s : Sem Unit, (∃ v w', (do s; pure Next.skip : Sem Next).run P w = .ok (.value v) w') ∨ (∃ w', (do s; pure Next.skip : Sem Next).run P w = .ok .skip w') ∨ (∃ x w', (do s; pure Next.skip : Sem Next).run P w = .halt x w') := by
    intro s
    simp only [Sem.run_bind, Sem.run_pure]
    cases s.run P w with
    | ok v w' => exact .inr (.inl ⟨w', rfl⟩)
    | halt x w' => exact .inr (.inr ⟨x, w', rfl⟩)
  have hp : ∀ (s : Sem Bool) (x y : Value), (∃ v w', (do pure (Next.value (if ← s then x else y)) : Sem Next).run P w = .ok (.value v) w') ∨ (∃ w', (do pure (Next.value (if ← s then x else y)) : Sem Next).run P w = .ok .skip w') ∨ (∃ z w', (do pure (Next.value (if ← s then x else y)) : Sem Next).run P w = .halt z w') := by
    intro s x y
    simp only [Sem.run_bind, Sem.run_pure]
    cases s.run P w with
    | ok v w' => exact .inl ⟨_, w', rfl⟩
    | halt x w' => exact .inr (.inr ⟨x, w', rfl⟩)
  unfold execOp
  cases ho : o.op <;> rw [ho] at h <;> first | (exfalso; simp [plainOp] at h; done) | skip
  all_goals first | exact hb _ | exact hu _ | exact hp _ _ _ | exact .inl ⟨_, w, rfl⟩

theorem plain_about {o : Oper} (h : plainOp o.op = true) (ρ : Operand → Value) (w : World) : o.about P w ρ = none := by
  unfold Oper.about
  cases ho : o.op <;> rw [ho] at h <;> first | rfl | (exfalso; simp [plainOp] at h; done)
theorem plain_defer {o : Oper} (h : plainOp o.op = true) (c : _) : o.op ≠ .defer c := by
  intro e
  rw [e] at h
  simp [plainOp] at h

/-- What is asked behind the region, if it ends well. -/
def endsWell (Q : Exit → Act → World → Prop) : Exit → Act → World → Prop := fun e a w => e = .normal ∧ Q .normal a w

theorem anyIn_of_any {F : Fence} {n : Nat} {md : Region.Mode} {ops : Array Oper} {Q : Exit → Act → World → Prop} (hs : ∀ (i : Nat) (o : Oper), ops[i]? = some o → plainOp o.op = true) :
    ∀ (fuel : Nat) (listed : Array Bool) (a : Act) (w : World), wpAny P md ops (endsWell Q) fuel listed a w → wpAnyIn F n P md ops Q fuel listed a w
  | 0, _, _, _, h => ⟨h.1, h.2.2⟩
  | fuel + 1, listed, a, w, h => ⟨fun h0 => (h.1 h0).2, fun i hi => by
    have h1 := h.2 i hi
    unfold wpOp at h1
    unfold wpOpIn
    cases ho : ops[i]? with
    | none =>
      rw [ho] at h1
      exact anyIn_of_any hs fuel _ _ _ h1
    | some o =>
      rw [ho] at h1
      have hp := hs i o ho
      simp only at h1 ⊢
      split
      · rename_i hw
        rw [if_pos hw] at h1
        rcases h1 with h1 | ⟨_, hl⟩
        · refine ⟨fun f hf => (by rw [plain_about hp] at hf; cases hf), ?_⟩
          rw [Oper.semAt_eq _ _ _ (plain_defer hp)]
          unfold Oper.wp at h1
          rcases plain_run (P := P) hp a.eval w with ⟨v, w', e⟩ | ⟨w', e⟩ | ⟨x, w', e⟩
          · rw [e] at h1 ⊢
            exact anyIn_of_any hs fuel _ _ _ h1
          · rw [e] at h1 ⊢
            exact anyIn_of_any hs fuel _ _ _ h1
          · rw [e] at h1
            exfalso
            cases x <;> simp [Oper.upon, endsWell] at h1
        · exfalso
          obtain ⟨_, _, h2, _⟩ := hl
          cases h2
      · rename_i hw
        rw [if_neg hw] at h1
        exact ⟨fun f hf => (by rw [plain_about hp] at hf; cases hf), anyIn_of_any hs fuel _ _ _ h1⟩⟩

theorem region_round {F : Fence} {n id : Nat} {ops : Array Oper} {Q : Exit → Act → World → Prop} {S : World → Prop} {a : Act} {w : World} (hm : P.follows .mixedOrders = true) (hs : ops.all (fun o => plainOp o.op) = true)
    (h : wpAnyH P .any ops (endsWell Q) S ops.size (Array.replicate ops.size false) a w.drew) : (Code.region id ops true).wpIn F n P Q a w := by
  refine wpIn_region_any hm ?_
  refine anyIn_of_any (fun i o ho => ?_) _ _ _ _ (wpAny_of_held _ _ _ _ h)
  have := Array.all_eq_true'.1 hs o (Array.mem_of_getElem? ho)
  exact this

/-- 'wpAnyH_take' with the slot that is written named: the frame stays small. -/
theorem take_at {md : Region.Mode} {ops : Array Oper} {Q : Exit → Act → World → Prop} {S : World → Prop} {i d : Nat} {oi : Oper} {v : Value} {fuel : Nat} {listed : Array Bool} {a : Act} {w : World} (hi : ops[i]? = some oi) (hd : oi.dst = some d)
    (hs : Region.noSelect ops = true) (hf : Region.free md ops listed i = true) (hr : (Region.ready md ops listed).contains i = true) (hQ : ∀ c a w, Q (.panic c) (a.put oi.dst v) w → Q (.panic c) a w) (hy : YieldsIf P ops S oi v a) (hS : S w)
    (h : wpAnyH P md ops Q S fuel (listed.setIfInBounds i true) (a.put (some d) v) w) : wpAnyH P md ops Q S (fuel + 1) listed a w := by
  rw [← hd] at h
  exact wpAnyH_take hi hs hf hr hQ hy hS h

end Go.Proofs.YtfhlligcbpnkkaaDoor
