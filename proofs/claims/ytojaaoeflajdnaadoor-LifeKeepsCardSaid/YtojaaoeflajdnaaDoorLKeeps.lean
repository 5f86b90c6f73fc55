/-
  The walk of the law LifeKeeps of layer 12, all ways.
-/
import Derived.Test.YtojaaoeflajdnaaDoorLKeepsE
import Derived.Test.YtojaaoeflajdnaaDoorLKeeps0
import Derived.Test.YtojaaoeflajdnaaDoorLKeeps1
import Derived.Test.YtojaaoeflajdnaaDoorLKeeps2
import Derived.Test.YtojaaoeflajdnaaDoorLKeeps3
namespace Go.Proofs.YtojaaoeflajdnaaDoor
open Go.RowKit

section
variable {t : Tk} {s a b u : Int}
theorem setK_ok (h : okT t) (ha : -1 ≤ a) : okT (setK t s a) := by
  obtain ⟨h1, k0, k1, k2, k3⟩ := h
  unfold setK
  split
  · exact ⟨h1, ha, k1, k2, k3⟩
  split
  · exact ⟨h1, k0, ha, k2, k3⟩
  split
  · exact ⟨h1, k0, k1, ha, k3⟩
  · exact ⟨h1, k0, k1, k2, ha⟩
theorem setK_st : (setK t s a).st = t.st := by
  unfold setK
  split
  · rfl
  split
  · rfl
  split <;> rfl
theorem setK_same : setK (setK t s a) s b = setK t s b := by
  unfold setK
  split
  · rfl
  split
  · rfl
  split <;> rfl
theorem setK_swap (hs : 0 ≤ s ∧ s < 4) (hu : 0 ≤ u ∧ u < 4) (h : ¬ u = s) : setK (setK t u b) s a = setK (setK t s a) u b := by
  have s4 : s = 0 ∨ s = 1 ∨ s = 2 ∨ s = 3 := by omega
  have u4 : u = 0 ∨ u = 1 ∨ u = 2 ∨ u = 3 := by omega
  clear hs hu
  rcases s4 with rfl | rfl | rfl | rfl <;> rcases u4 with rfl | rfl | rfl | rfl <;> first | (exact absurd rfl h) | rfl
/-- Kept anew, or in another place: whether it may does not hang on what was kept. -/
theorem keep_again (h : okT t) (ha : -1 ≤ a) (hst : ¬ t.st = 7) (u : Int) : (keepR (setK t s a) u b).1 = (keepR t u b).1 ∧ ((keepR t u b).1 = 0 → (0 ≤ u ∧ u < 4) ∧ -1 ≤ b ∧ keepR t u b = (0, setK t u b) ∧ keepR (setK t s a) u b = (0, setK (setK t s a) u b)) ∧
    ((keepR t u b).1 ≠ 0 → (keepR t u b).2 = zT ∧ (keepR (setK t s a) u b).2 = zT) := by
  have h' := setK_ok (s := s) h ha
  have hst' : ¬ (setK t s a).st = 7 := by rw [setK_st]; exact hst
  by_cases hu : 0 ≤ u ∧ u < 4
  · by_cases hb : -1 ≤ b
    · rw [keepR_5 h hu hb hst, keepR_5 h' hu hb hst']
      exact ⟨rfl, fun _ => ⟨hu, hb, rfl, rfl⟩, fun q => absurd rfl q⟩
    · rw [keepR_3 h hu hb, keepR_3 h' hu hb]
      exact ⟨rfl, fun q => absurd q (by decide), fun _ => ⟨rfl, rfl⟩⟩
  · rw [keepR_2 h hu, keepR_2 h' hu]
    exact ⟨rfl, fun q => absurd q (by decide), fun _ => ⟨rfl, rfl⟩⟩
end

theorem lkeeps_any (t : Tk) (s too a b : Int) (w : World) (hF : Fol w) : Calls Tryd.prog 8 #[.agg (tc t), .int .i64 s, .int .i64 too, .int .i64 a, .int .i64 b] w (TrueAns w) := by
  obtain ⟨id, tn, pg, pc, un, k0, k1, k2, k3, st, rn⟩ := t
  by_cases h1 : okT ⟨id, tn, pg, pc, un, k0, k1, k2, k3, st, rn⟩
  · by_cases h2 : 0 ≤ s ∧ s < 4
    · by_cases h3 : -1 ≤ a
      · by_cases h4 : (Tk.st ⟨id, tn, pg, pc, un, k0, k1, k2, k3, st, rn⟩) = 7
        · exact lk_err9 id tn pg pc un k0 k1 k2 k3 st rn s too a b w hF (keepR_4 h1 h2 h3 h4)
        · have hk := keepR_5 h1 h2 h3 h4
          obtain ⟨f1, f2, f3⟩ := keep_again (s := s) (a := a) (b := b) h1 h3 h4 s
          obtain ⟨g1, g2, g3⟩ := keep_again (s := s) (a := a) (b := b) h1 h3 h4 too
          have hY : keepR (setK ⟨id, tn, pg, pc, un, k0, k1, k2, k3, st, rn⟩ s a) s b = keepR ⟨id, tn, pg, pc, un, k0, k1, k2, k3, st, rn⟩ s b := by
            by_cases q : (keepR ⟨id, tn, pg, pc, un, k0, k1, k2, k3, st, rn⟩ s b).1 = 0
            · rw [(f2 q).2.2.1, (f2 q).2.2.2, setK_same]
            · exact Prod.ext f1 (by rw [(f3 q).1, (f3 q).2])
          obtain ⟨⟨f, ⟨y0, y1, y2, y3, y4, y5, y6, y7, y8, y9, y10⟩⟩, hf⟩ : ∃ r, keepR ⟨id, tn, pg, pc, un, k0, k1, k2, k3, st, rn⟩ s b = r := ⟨_, rfl⟩
          rw [hf] at hY
          obtain ⟨⟨h, ⟨u0, u1, u2, u3, u4, u5, u6, u7, u8, u9, u10⟩⟩, hq⟩ : ∃ r, keepR ⟨id, tn, pg, pc, un, k0, k1, k2, k3, st, rn⟩ too b = r := ⟨_, rfl⟩
          obtain ⟨⟨hh, ⟨p0, p1, p2, p3, p4, p5, p6, p7, p8, p9, p10⟩⟩, hp⟩ : ∃ r, keepR (setK ⟨id, tn, pg, pc, un, k0, k1, k2, k3, st, rn⟩ s a) too b = r := ⟨_, rfl⟩
          have hhe : hh = h := by rw [hp, hq] at g1; exact g1
          subst hhe
          have h6 : hh = 0 → ¬ too = s → keepR ⟨u0, u1, u2, u3, u4, u5, u6, u7, u8, u9, u10⟩ s a = (0, ⟨p0, p1, p2, p3, p4, p5, p6, p7, p8, p9, p10⟩) := by
            intro e0 hne
            obtain ⟨gu, gb, e1, e2⟩ := g2 (by rw [hq]; exact e0)
            rw [hq] at e1
            rw [hp] at e2
            rw [(Prod.mk.inj e1).2, (Prod.mk.inj e2).2, keepR_5 (setK_ok h1 gb) h2 h3 (by rw [setK_st]; exact h4), setK_swap h2 gu hne]
          have hs4 : s = 0 ∨ s = 1 ∨ s = 2 ∨ s = 3 := by omega
          clear f1 f2 f3 g1 g2 g3 h1 h2 h3 h4
          rcases hs4 with rfl | rfl | rfl | rfl
          · by_cases h0 : hh = 0
            · subst h0
              by_cases ht : too = 0
              · subst ht
                exact lk_0B id tn pg pc un k0 k1 k2 k3 st rn a b f y0 y1 y2 y3 y4 y5 y6 y7 y8 y9 y10 p0 p1 p2 p3 p4 p5 p6 p7 p8 p9 p10 u0 u1 u2 u3 u4 u5 u6 u7 u8 u9 u10 w hF hk hY hf hp hq
              · exact lk_0C id tn pg pc un k0 k1 k2 k3 st rn too a b f y0 y1 y2 y3 y4 y5 y6 y7 y8 y9 y10 p0 p1 p2 p3 p4 p5 p6 p7 p8 p9 p10 u0 u1 u2 u3 u4 u5 u6 u7 u8 u9 u10 w hF hk hY hf hp hq (h6 rfl ht) (by simpa using ht)
            · exact lk_0A id tn pg pc un k0 k1 k2 k3 st rn too a b f y0 y1 y2 y3 y4 y5 y6 y7 y8 y9 y10 p0 p1 p2 p3 p4 p5 p6 p7 p8 p9 p10 u0 u1 u2 u3 u4 u5 u6 u7 u8 u9 u10 hh w hF hk hY hf hp hq (by simpa using h0)
          · by_cases h0 : hh = 0
            · subst h0
              by_cases ht : too = 1
              · subst ht
                exact lk_1B id tn pg pc un k0 k1 k2 k3 st rn a b f y0 y1 y2 y3 y4 y5 y6 y7 y8 y9 y10 p0 p1 p2 p3 p4 p5 p6 p7 p8 p9 p10 u0 u1 u2 u3 u4 u5 u6 u7 u8 u9 u10 w hF hk hY hf hp hq
              · exact lk_1C id tn pg pc un k0 k1 k2 k3 st rn too a b f y0 y1 y2 y3 y4 y5 y6 y7 y8 y9 y10 p0 p1 p2 p3 p4 p5 p6 p7 p8 p9 p10 u0 u1 u2 u3 u4 u5 u6 u7 u8 u9 u10 w hF hk hY hf hp hq (h6 rfl ht) (by simpa using ht)
            · exact lk_1A id tn pg pc un k0 k1 k2 k3 st rn too a b f y0 y1 y2 y3 y4 y5 y6 y7 y8 y9 y10 p0 p1 p2 p3 p4 p5 p6 p7 p8 p9 p10 u0 u1 u2 u3 u4 u5 u6 u7 u8 u9 u10 hh w hF hk hY hf hp hq (by simpa using h0)
          · by_cases h0 : hh = 0
            · subst h0
              by_cases ht : too = 2
              · subst ht
                exact lk_2B id tn pg pc un k0 k1 k2 k3 st rn a b f y0 y1 y2 y3 y4 y5 y6 y7 y8 y9 y10 p0 p1 p2 p3 p4 p5 p6 p7 p8 p9 p10 u0 u1 u2 u3 u4 u5 u6 u7 u8 u9 u10 w hF hk hY hf hp hq
              · exact lk_2C id tn pg pc un k0 k1 k2 k3 st rn too a b f y0 y1 y2 y3 y4 y5 y6 y7 y8 y9 y10 p0 p1 p2 p3 p4 p5 p6 p7 p8 p9 p10 u0 u1 u2 u3 u4 u5 u6 u7 u8 u9 u10 w hF hk hY hf hp hq (h6 rfl ht) (by simpa using ht)
            · exact lk_2A id tn pg pc un k0 k1 k2 k3 st rn too a b f y0 y1 y2 y3 y4 y5 y6 y7 y8 y9 y10 p0 p1 p2 p3 p4 p5 p6 p7 p8 p9 p10 u0 u1 u2 u3 u4 u5 u6 u7 u8 u9 u10 hh w hF hk hY hf hp hq (by simpa using h0)
          · by_cases h0 : hh = 0
            · subst h0
              by_cases ht : too = 3
              · subst ht
                exact lk_3B id tn pg pc un k0 k1 k2 k3 st rn a b f y0 y1 y2 y3 y4 y5 y6 y7 y8 y9 y10 p0 p1 p2 p3 p4 p5 p6 p7 p8 p9 p10 u0 u1 u2 u3 u4 u5 u6 u7 u8 u9 u10 w hF hk hY hf hp hq
              · exact lk_3C id tn pg pc un k0 k1 k2 k3 st rn too a b f y0 y1 y2 y3 y4 y5 y6 y7 y8 y9 y10 p0 p1 p2 p3 p4 p5 p6 p7 p8 p9 p10 u0 u1 u2 u3 u4 u5 u6 u7 u8 u9 u10 w hF hk hY hf hp hq (h6 rfl ht) (by simpa using ht)
            · exact lk_3A id tn pg pc un k0 k1 k2 k3 st rn too a b f y0 y1 y2 y3 y4 y5 y6 y7 y8 y9 y10 p0 p1 p2 p3 p4 p5 p6 p7 p8 p9 p10 u0 u1 u2 u3 u4 u5 u6 u7 u8 u9 u10 hh w hF hk hY hf hp hq (by simpa using h0)
      · exact lk_err1 id tn pg pc un k0 k1 k2 k3 st rn s too a b w hF (keepR_3 h1 h2 h3)
    · exact lk_err1 id tn pg pc un k0 k1 k2 k3 st rn s too a b w hF (keepR_2 h1 h2)
  · exact lk_err1 id tn pg pc un k0 k1 k2 k3 st rn s too a b w hF (keepR_1 h1)

end Go.Proofs.YtojaaoeflajdnaaDoor
