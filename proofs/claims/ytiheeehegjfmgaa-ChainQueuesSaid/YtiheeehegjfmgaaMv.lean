/-
  What the program does with chains, told by the lists that they stand for.
-/
import Derived.Test.YtiheeehegjfmgaaBo
namespace Go.Proofs.Ytiheeehegjfmgaa
open Go.RowKit

/-- A function of chains answers chains that stand for lists. -/
def MovesC (fp : FuncId) (args : Array Value) (next head tail : List Int) (qs' : List (List Int)) : Prop :=
  ∃ N H T, N.length = next.length ∧ Rep N H T qs' ∧ ∀ (A B D : Option Addr) (n a m b k d : Nat) (w : World), Chn w A n B m D k next head tail → Calls Try.prog fp (#[.agg #[.slice A n a, .slice B m b, .slice D k d]] ++ args) w (NewCE N H T 0 w)
def ErrsC (fp : FuncId) (args : Array Value) (next head tail : List Int) (er : Int) : Prop :=
  ∀ (A B D : Option Addr) (n a m b k d : Nat) (w : World), Chn w A n B m D k next head tail → Calls Try.prog fp (#[.agg #[.slice A n a, .slice B m b, .slice D k d]] ++ args) w (NewCE [] [] [] er w)

section
variable {next head tail : List Int} {qs : List (List Int)}
theorem new_moves (n m : Nat) (hn : n ≤ 1024) (h1 : 1 ≤ m) (h2 : m ≤ 256) : ∃ N H T, N.length = n ∧ Rep N H T (List.replicate m []) ∧ ∀ w, Calls Try.prog 21 #[.int .i64 n, .int .i64 m] w (NewCE N H T 0 w) :=
  ⟨_, _, _, by simp, rep_new hn h1 h2, fun w => new_ok n m hn h1 h2 w⟩
theorem push_moves (r : Rep next head tail qs) {i x : Nat} (hi : i < qs.length) (hx : x < next.length) (hno : ∀ j, j < qs.length → (x : Int) ∉ qth qs j) :
    MovesC 12 #[.int .i64 i, .int .i64 x] next head tail (qs.set i (qth qs i ++ [(x : Int)])) := by
  refine ⟨pushN next tail i x, pushH head tail i x, pushT tail i x, pushN_len _ _ _ _, push_rep r hi hx hno, fun A B D n a m b k d w hp => ?_⟩
  exact push_ok A B D n a m b k d next head tail i x qs r hi (by rw [← hp.x.1]; simp [inBd]; omega) (where_no hno) w hp
theorem cut_moves (r : Rep next head tail qs) {i p x : Nat} (hi : i < qs.length) (hp : p < (qth qs i).length) (hx : nth (qth qs i) p = (x : Int)) :
    MovesC 16 #[.int .i64 x] next head tail (qs.set i ((qth qs i).eraseIdx p)) := by
  have hr := r.rng i p hi hp
  refine ⟨cutN next (aheadO (qth qs i) p) x, cutH next head i (aheadO (qth qs i) p) x, cutT tail i (aheadO (qth qs i) p) x, cutN_len _ _ _, cut_rep r hi hp hx, fun A B D n a m b k d w hp' => ?_⟩
  exact cut_ok A B D n a m b k d next head tail i p x qs r hi hp hx (by rw [← hp'.x.1]; simp [inBd]; omega) _ rfl w hp'
theorem pop_moves (r : Rep next head tail qs) {i x : Nat} (hi : i < qs.length) (hp : 0 < (qth qs i).length) (hx : nth (qth qs i) 0 = (x : Int)) :
    ∃ N H T, N.length = next.length ∧ Rep N H T (qs.set i ((qth qs i).drop 1)) ∧ ∀ (A B D : Option Addr) (n a m b k d : Nat) (w : World), Chn w A n B m D k next head tail → Calls Try.prog 14 #[.agg #[.slice A n a, .slice B m b, .slice D k d], .int .i64 i] w (NewPE x N H T 0 w) := by
  have hc := cut_rep r hi hp hx
  rw [show aheadO (qth qs i) 0 = -1 from if_pos rfl, show (qth qs i).eraseIdx 0 = (qth qs i).drop 1 by cases qth qs i <;> rfl] at hc
  exact ⟨_, _, _, cutN_len _ _ _, hc, fun A B D n a m b k d w hp' => pop_ok A B D n a m b k d next head tail i x qs r hi hp hx w hp'⟩
theorem join_moves (r : Rep next head tail qs) {f t : Nat} (hf : f < qs.length) (ht : t < qs.length) (hft : f ≠ t) :
    MovesC 18 #[.int .i64 f, .int .i64 t] next head tail ((qs.set t (qth qs t ++ qth qs f)).set f []) := by
  by_cases hz : nth head f = -1
  · have hz2 : (qth qs f).length = 0 := by
      rcases r.head_at hf with ⟨_, h⟩ | ⟨_, h, _⟩
      · exact h
      · omega
    exact ⟨next, head, tail, rfl, by rw [join_nothing hz2]; exact r, fun A B D n a m b k d w hp => join_none A B D n a m b k d next head tail f t qs r hf ht hft hz w hp⟩
  · exact ⟨_, _, _, joinN_len _ _ _ _ _, join_rep r hf ht hft hz, fun A B D n a m b k d w hp => join_ok A B D n a m b k d next head tail f t qs r hf ht hft hz w hp⟩
end

end Go.Proofs.Ytiheeehegjfmgaa
