/-
  The document's answer of layer 2, numbers of a sign and sixteen parts: the contract of Add.
-/
import Derived.Test.YtaaffpeppdinhaaBigSub
namespace Go.Proofs.Ytaaffpeppdinhaa
open Go.RowKit

/-- How great a number is. -/
def big (z : Int) : Int := z.natAbs

theorem big_of {m : Bool} {L : List Int} {z : Int} (hd : Dig L) (hz : z = if m = true then -val L else val L) : big z = val L := by
  have h := (val_bd hd).1
  unfold big
  cases m <;> simp at hz <;> omega

theorem add_big (c d : Array Value) (x y : Int) (w : World) (hc : Big c x) (hd : Big d y) (hV : big x + big y < 65536 ^ 16) : Calls Try.prog 28 #[.agg c, .agg d] w (BigAns (x + y) w) := by
  obtain ⟨m, K, hb, dK, hx, hm⟩ := hc
  obtain ⟨n, L, hb2, dL, hy, hn⟩ := hd
  rw [big_of dK hx, big_of dL hy] at hV
  have vK := (val_bd dK).1
  have vL := (val_bd dL).1
  cases m <;> cases n <;> simp only [Bool.false_eq_true, if_false, if_true] at hx hy <;> subst hx hy
  · exact add_ff c d K L w hb hb2 dK dL hV fun cc C h1 h2 h3 => ⟨false, C, h1, h2, by simp [h3], fun _ => rfl⟩
  · by_cases h : val K < val L
    · exact add_ft_s c d K L w hb hb2 dK dL h fun cc C h1 h2 h3 => ⟨fun h4 => ⟨true, C, h1, h2, by simp [h3]; omega, fun h5 => absurd h5 h4⟩, fun h4 => ⟨false, C, h1.set_sign false, h2, by simp; omega, fun _ => rfl⟩⟩
    · exact add_ft c d K L w hb hb2 dK dL (by omega) fun cc C h1 h2 h3 => ⟨fun h4 => ⟨false, C, h1, h2, by simp [h3]; omega, fun _ => rfl⟩, fun h4 => ⟨false, C, h1.set_sign false, h2, by simp; omega, fun _ => rfl⟩⟩
  · by_cases h : val K < val L
    · exact add_tf_s c d K L w hb hb2 dK dL h fun cc C h1 h2 h3 => ⟨fun h4 => ⟨false, C, h1, h2, by simp [h3]; omega, fun _ => rfl⟩, fun h4 => ⟨false, C, h1.set_sign false, h2, by simp; omega, fun _ => rfl⟩⟩
    · exact add_tf c d K L w hb hb2 dK dL (by omega) fun cc C h1 h2 h3 => ⟨fun h4 => ⟨true, C, h1, h2, by simp [h3]; omega, fun h5 => absurd h5 h4⟩, fun h4 => ⟨false, C, h1.set_sign false, h2, by simp; omega, fun _ => rfl⟩⟩
  · have n1 : val K ≠ 0 := fun h => by simpa using hm h
    exact add_tt c d K L w hb hb2 dK dL hV fun cc C h1 h2 h3 => ⟨true, C, h1, h2, by simp [h3]; omega, fun h5 => by omega⟩

end Go.Proofs.Ytaaffpeppdinhaa
