/-
  The program and the document answer the same: each in its own memory.
-/
import Derived.Test.YtiheeehegjfmgaaMa
import Derived.Test.YtiheeehegjfmgaaPh
namespace Go.Proofs.Ytiheeehegjfmgaa
open Go.RowKit

theorem in_cases (x : Int) (n : Nat) : inBd x (n : Int) = false ∨ ∃ i : Nat, x = i ∧ i < n ∧ inBd x (n : Int) = true := by
  by_cases h : 0 ≤ x ∧ x < (n : Int)
  · exact .inr ⟨x.toNat, by omega, by omega, by simp [inBd]; exact h⟩
  · left
    simp only [inBd]
    simp
    omega
theorem where_cases {next head tail : List Int} {qs : List (List Int)} (r : Rep next head tail qs) (x : Int) : (whereQ qs x = -1 ∧ ∀ j, j < qs.length → x ∉ qth qs j) ∨ ∃ i p, i < qs.length ∧ p < (qth qs i).length ∧ nth (qth qs i) p = x ∧ whereQ qs x = (i : Int) := by
  by_cases h : ∃ i, i < qs.length ∧ x ∈ qth qs i
  · obtain ⟨i, hi, hm⟩ := h
    obtain ⟨p, hp, e⟩ := mem_nth hm
    exact .inr ⟨i, p, hi, hp, e, r.where_at hi hm⟩
  · have hno : ∀ j, j < qs.length → x ∉ qth qs j := fun j hj hm => h ⟨j, hj, hm⟩
    exact .inl ⟨where_no hno, hno⟩

/-- What both answer, with arguments behind the chains. -/
def BothC (fp fd : FuncId) (args : Array Value) (next head tail : List Int) (N H T : List Int) (er : Int) : Prop :=
  (∀ (A B D : Option Addr) (n a m b k d : Nat) (w : World), Chn w A n B m D k next head tail → Calls Try.prog fp (#[.agg #[.slice A n a, .slice B m b, .slice D k d]] ++ args) w (NewCE N H T er w)) ∧
    (∀ (A B D : Option Addr) (n a m b k d : Nat) (w : World), Chn w A n B m D k next head tail → Calls Try.prog fd (#[.agg #[.slice A n a, .slice B m b, .slice D k d]] ++ args) w (RetCE N H T er w))
def BothP (fp fd : FuncId) (args : Array Value) (next head tail : List Int) (x : Int) (N H T : List Int) (er : Int) : Prop :=
  (∀ (A B D : Option Addr) (n a m b k d : Nat) (w : World), Chn w A n B m D k next head tail → Calls Try.prog fp (#[.agg #[.slice A n a, .slice B m b, .slice D k d]] ++ args) w (NewPE x N H T er w)) ∧
    (∀ (A B D : Option Addr) (n a m b k d : Nat) (w : World), Chn w A n B m D k next head tail → Calls Try.prog fd (#[.agg #[.slice A n a, .slice B m b, .slice D k d]] ++ args) w (RetPE x N H T er w))

theorem push_both (next head tail : List Int) (list x : Int) : ∃ N H T er, BothC 12 13 #[.int .i64 list, .int .i64 x] next head tail N H T er := by
  by_cases hR : ∃ qs, Rep next head tail qs
  · obtain ⟨qs, r⟩ := hR
    have hm : qs.length = head.length := r.lh.symm
    rcases in_cases x next.length with hx | ⟨xn, rfl, hxn, hx⟩
    · refine ⟨[], [], [], 1, fun A B D n a m b k d w hp => ?_, fun A B D n a m b k d w hp => ?_⟩
      · exact push_out2 A B D n a m b k d next head tail list x qs r (by rw [← hp.x.1]; exact hx) w hp
      · rcases in_cases list qs.length with hl | ⟨i, rfl, hi, hl⟩
        · exact rpush_out1 A B D n a m b k d next head tail list x qs r hl w hp
        · exact rpush_out2 A B D n a m b k d next head tail i x qs r hl (by rw [← hp.x.1]; exact hx) w hp
    · rcases in_cases list qs.length with hl | ⟨i, rfl, hi, hl⟩
      · refine ⟨[], [], [], 1, fun A B D n a m b k d w hp => ?_, fun A B D n a m b k d w hp => ?_⟩
        · exact push_out1 A B D n a m b k d next head tail list xn qs r (by rw [← hp.x.1]; exact hx) (by rw [← hp.h.1, ← hm]; exact hl) w hp
        · exact rpush_out1 A B D n a m b k d next head tail list xn qs r hl w hp
      · rcases where_cases r (xn : Int) with ⟨hw, hno⟩ | ⟨j, p, hj, hp', hx2, hw⟩
        · refine ⟨pushN next tail i xn, pushH head tail i xn, pushT tail i xn, 0, fun A B D n a m b k d w hp => ?_, fun A B D n a m b k d w hp => ?_⟩
          · exact push_ok A B D n a m b k d next head tail i xn qs r hi (by rw [← hp.x.1]; exact hx) hw w hp
          · exact rpush_ok A B D n a m b k d next head tail i xn qs _ _ _ r hi (by rw [← hp.x.1]; exact hx) hw (push_rep r hi hxn hno) (by rw [pushN_len]; exact hp.x.1) w hp
        · refine ⟨[], [], [], 6, fun A B D n a m b k d w hp => ?_, fun A B D n a m b k d w hp => ?_⟩
          · exact push_there A B D n a m b k d next head tail i xn qs r (by rw [← hp.x.1]; exact hx) (by rw [← hp.h.1, ← hm]; exact hl) (by omega) w hp
          · exact rpush_there A B D n a m b k d next head tail i xn qs r hl (by rw [← hp.x.1]; exact hx) (by omega) w hp
  · have hno : ∀ qs, ¬ Rep next head tail qs := fun qs r => hR ⟨qs, r⟩
    exact ⟨[], [], [], 1, fun A B D n a m b k d w hp => push_no A B D n a m b k d next head tail list x hno w hp, fun A B D n a m b k d w hp => rpush_no A B D n a m b k d next head tail list x hno w hp⟩

theorem pop_both (next head tail : List Int) (list : Int) : ∃ x N H T er, BothP 14 15 #[.int .i64 list] next head tail x N H T er := by
  by_cases hR : ∃ qs, Rep next head tail qs
  · obtain ⟨qs, r⟩ := hR
    have hm : qs.length = head.length := r.lh.symm
    rcases in_cases list qs.length with hl | ⟨i, rfl, hi, hl⟩
    · exact ⟨0, [], [], [], 1, fun A B D n a m b k d w hp => pop_out A B D n a m b k d next head tail list qs r (by rw [← hp.h.1, ← hm]; exact hl) w hp, fun A B D n a m b k d w hp => rpop_out A B D n a m b k d next head tail list qs r hl w hp⟩
    · rcases Nat.eq_zero_or_pos (qth qs i).length with hz | hz
      · exact ⟨0, [], [], [], 5, fun A B D n a m b k d w hp => pop_none A B D n a m b k d next head tail i qs r hi hz w hp, fun A B D n a m b k d w hp => rpop_none A B D n a m b k d next head tail i qs r hi hz w hp⟩
      · have hr := r.rng i 0 hi hz
        obtain ⟨x, hx⟩ : ∃ x : Nat, nth (qth qs i) 0 = x := ⟨(nth (qth qs i) 0).toNat, by omega⟩
        have hc := cut_rep r hi hz hx
        have e : aheadO (qth qs i) 0 = -1 := if_pos rfl
        rw [e] at hc
        have he : (qth qs i).eraseIdx 0 = (qth qs i).drop 1 := by cases qth qs i <;> rfl
        rw [he] at hc
        refine ⟨x, cutN next (-1) x, cutH next head i (-1) x, cutT tail i (-1) x, 0, fun A B D n a m b k d w hp => pop_ok A B D n a m b k d next head tail i x qs r hi hz hx w hp, fun A B D n a m b k d w hp => ?_⟩
        have := rpop_okW A B D n a m b k d next head tail i qs _ _ _ r hi hz hc (by rw [cutN_len]; exact hp.x.1) w hp
        rw [hx] at this
        exact this
  · have hno : ∀ qs, ¬ Rep next head tail qs := fun qs r => hR ⟨qs, r⟩
    exact ⟨0, [], [], [], 1, fun A B D n a m b k d w hp => pop_no A B D n a m b k d next head tail list hno w hp, fun A B D n a m b k d w hp => rpop_no A B D n a m b k d next head tail list hno w hp⟩

theorem cut_both (next head tail : List Int) (x : Int) : ∃ N H T er, BothC 16 17 #[.int .i64 x] next head tail N H T er := by
  by_cases hR : ∃ qs, Rep next head tail qs
  · obtain ⟨qs, r⟩ := hR
    rcases in_cases x next.length with hx | ⟨xn, rfl, hxn, hx⟩
    · exact ⟨[], [], [], 1, fun A B D n a m b k d w hp => cut_out A B D n a m b k d next head tail x qs r (by rw [← hp.x.1]; exact hx) w hp, fun A B D n a m b k d w hp => rcut_out A B D n a m b k d next head tail x qs r (by rw [← hp.x.1]; exact hx) w hp⟩
    · rcases where_cases r (xn : Int) with ⟨hw, hno⟩ | ⟨i, p, hi, hp', hx2, hw⟩
      · exact ⟨[], [], [], 5, fun A B D n a m b k d w hp => cut_none A B D n a m b k d next head tail xn qs r (by rw [← hp.x.1]; exact hx) hw w hp, fun A B D n a m b k d w hp => rcut_none A B D n a m b k d next head tail xn qs r (by rw [← hp.x.1]; exact hx) hw w hp⟩
      · have hc := cut_rep r hi hp' hx2
        have he := erase_filter hp' (fun q hq e => (r.one i i q p hi hi hq hp' e).2)
        rw [hx2] at he
        rw [← he] at hc
        exact ⟨_, _, _, 0, fun A B D n a m b k d w hp => cut_ok A B D n a m b k d next head tail i p xn qs r hi hp' hx2 (by rw [← hp.x.1]; exact hx) _ rfl w hp, fun A B D n a m b k d w hp => rcut_ok A B D n a m b k d next head tail i xn qs _ _ _ r hi (by rw [← hp.x.1]; exact hx) hw hc (by rw [cutN_len]; exact hp.x.1) w hp⟩
  · have hno : ∀ qs, ¬ Rep next head tail qs := fun qs r => hR ⟨qs, r⟩
    exact ⟨[], [], [], 1, fun A B D n a m b k d w hp => cut_no A B D n a m b k d next head tail x hno w hp, fun A B D n a m b k d w hp => rcut_no A B D n a m b k d next head tail x hno w hp⟩

theorem join_both (next head tail : List Int) (x y : Int) : ∃ N H T er, BothC 18 19 #[.int .i64 x, .int .i64 y] next head tail N H T er := by
  by_cases hR : ∃ qs, Rep next head tail qs
  · obtain ⟨qs, r⟩ := hR
    have hm : qs.length = head.length := r.lh.symm
    rcases in_cases x qs.length with hl | ⟨f, rfl, hf, hl⟩
    · exact ⟨[], [], [], 1, fun A B D n a m b k d w hp => join_out1 A B D n a m b k d next head tail x y qs r (by rw [← hp.h.1, ← hm]; exact hl) w hp, fun A B D n a m b k d w hp => rjoin_out1 A B D n a m b k d next head tail x y qs r hl w hp⟩
    · rcases in_cases y qs.length with hl2 | ⟨t, rfl, ht, hl2⟩
      · exact ⟨[], [], [], 1, fun A B D n a m b k d w hp => join_out2 A B D n a m b k d next head tail f y qs r (by rw [← hp.h.1, ← hm]; exact hl) (by rw [← hp.h.1, ← hm]; exact hl2) w hp, fun A B D n a m b k d w hp => rjoin_out2 A B D n a m b k d next head tail f y qs r hl hl2 w hp⟩
      · by_cases hft : f = t
        · subst hft
          exact ⟨[], [], [], 1, fun A B D n a m b k d w hp => join_same A B D n a m b k d next head tail f qs r (by rw [← hp.h.1, ← hm]; exact hl) w hp, fun A B D n a m b k d w hp => rjoin_same A B D n a m b k d next head tail f qs r hl w hp⟩
        · by_cases hz : nth head f = -1
          · have hz2 : (qth qs f).length = 0 := by
              rcases r.head_at hf with ⟨_, h⟩ | ⟨_, h, _⟩
              · exact h
              · omega
            exact ⟨_, _, _, 0, fun A B D n a m b k d w hp => join_none A B D n a m b k d next head tail f t qs r hf ht hft hz w hp, fun A B D n a m b k d w hp => rjoin_ok A B D n a m b k d next head tail f t qs _ _ _ r hf ht hft (by rw [join_nothing hz2]; exact r) hp.x.1 w hp⟩
          · exact ⟨_, _, _, 0, fun A B D n a m b k d w hp => join_ok A B D n a m b k d next head tail f t qs r hf ht hft hz w hp, fun A B D n a m b k d w hp => rjoin_ok A B D n a m b k d next head tail f t qs _ _ _ r hf ht hft (join_rep r hf ht hft hz) (by rw [joinN_len]; exact hp.x.1) w hp⟩
  · have hno : ∀ qs, ¬ Rep next head tail qs := fun qs r => hR ⟨qs, r⟩
    exact ⟨[], [], [], 1, fun A B D n a m b k d w hp => join_no A B D n a m b k d next head tail x y hno w hp, fun A B D n a m b k d w hp => rjoin_no A B D n a m b k d next head tail x y hno w hp⟩

end Go.Proofs.Ytiheeehegjfmgaa
