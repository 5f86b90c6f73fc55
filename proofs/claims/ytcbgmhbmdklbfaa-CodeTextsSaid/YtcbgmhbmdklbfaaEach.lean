/-
  Contracts of slices.Collect at instructions, and of the iterator of programs: each is handed over in memory of its own.
-/
import Derived.Test.YtcbgmhbmdklbfaaCollect
import Derived.Deep.Onto
namespace Go.Proofs.Ytcbgmhbmdklbfaa
open Go.RowKit Go.Shelf
attribute [local go_sem] Oper.semAt_some wide_depth

set_option maxHeartbeats 1000000 in
theorem collect_any (B gf N : Nat) (lb : Array Value) (p : List I3) (w : World) (eg : ∀ args w, (callFunc gf args).run Try.prog w = .ok (.enter gf args) w) (hB : B ≤ w.heap.size) (hN : N ≤ 100000)
    (hseq : ∀ w1, Below w.heap.size w w1 → SeqV 4 Try.prog gf lb encI (fun x _ => FitI x) (Below B) (fun xs _ => xs = p) N w1) :
    Calls Try.prog 47 #[.func (.func gf) #[] lb] w (NewP p w) := by
  have HA := Lib.hid (appendSeq_any B gf N lb p w eg hB hN hseq)
  clear hseq eg
  go_enter Try.func47, Try.ntmps47
  go_wp2_with fail
  refine HA.out.mono ?_
  rintro e w1 ⟨A, c, rfl, h1, h2⟩
  have H1 := Lib.hid h1
  have H2 := Lib.hid h2
  clear h1 h2
  go_wp2
  go_ret
  exact ⟨A, c, rfl, H1.out, H2.out⟩

theorem eg_instrs (args : Array Value) (w : World) : (callFunc 50 args).run Try.prog w = .ok (.enter 50 args) w := by
  simp [go_sem]
theorem eg_programs (args : Array Value) (w : World) : (callFunc 45 args).run Try.prog w = .ok (.enter 45 args) w := by
  simp [go_sem]

/-- What of a text's instructions is collected. -/
theorem collect_instrs (B g : Nat) (A : Option Addr) (n c : Nat) (rs : List Int) (w : World) (hg : Bk w g 35 #[.slice A n c]) (h : OctB B w A n c rs) (hB : B ≤ w.heap.size) (hN : rs.length ≤ 100000) :
    Calls Try.prog 47 #[.func (.func 50) #[] #[.pointer (some ⟨g, 0, none⟩)]] w (NewP (insOf rs) w) :=
  collect_any B _ (rs.length / 4) _ _ w eg_instrs hB (by omega) fun w1 hb => instrs1_seq 4 B g A n c rs w1 (hg.below hb hg.lt) (h.below (hb.mono hB)) (Nat.le_trans hB hb.size)

theorem OctB.stepO {B : Nat} {w : World} {A : Option Addr} {n c : Nat} {rs : List Int} (h : OctB B w A n c rs) {k : Nat} (hk : k ≤ n) : OctB B w (if c = k then A else A.map (fun x => x.add k)) (n - k) (c - k) (rs.drop k) := by
  split
  · rename_i e
    obtain ⟨h1, h2, h3, h4⟩ := h
    exact ⟨by rw [List.length_drop]; omega, by omega, fun z hz => h3 z (List.mem_of_mem_drop hz), fun hn => by omega⟩
  · exact h.cut hk

/-- An element: a program that lies in memory of the call's own. -/
def PV (B : Nat) (x : Hd × List I3) (W : World) : Prop := x.1.2.1 = x.2.length ∧ OwnP 42 W B x.1.1 x.1.2.2 x.2
def encPr (x : Hd × List I3) : Array Value := #[hv x.1]

def PRel (B v : Nat) (bs : List Int) (J : List (Hd × List I3) → World → Prop) (u t : Value) (wr : World) : Prop :=
  ∃ (k : Nat) (pre : List (Hd × List I3)) (nR cR : Nat) (R : Option Addr), t = .int .i64 k ∧ k ≤ v ∧ u = .slice R nR cR ∧ pre.map Prod.snd = progsOf (bs.drop 1) k ∧ B ≤ wr.heap.size ∧ OctB B wr R nR cR (restOf (bs.drop 1) k) ∧ J pre wr

theorem hdV_nat {bs : List Int} (h : ∀ z ∈ bs, Oct z) : ∃ v : Nat, hdV bs = (v : Int) ∧ v ≤ 255 := by
  have := nth_oct h 0
  unfold Oct at this
  exact ⟨(nth bs 0).toNat, by unfold hdV; omega, by omega⟩

set_option maxRecDepth 100000 in
set_option maxHeartbeats 4000000 in
theorem programs1_seq (m : Nat) (B g : Nat) (A : Option Addr) (n c : Nat) (bs : List Int) (w : World) (hg : Bk w g 35 #[.slice A n c]) (h : OctB B w A n c bs) (hB : B ≤ w.heap.size) :
    SeqV m Try.prog 45 #[.pointer (some ⟨g, 0, none⟩)] encPr (PV B) (Below B) (fun xs _ => xs.map Prod.snd = parse bs) (hdV bs).toNat w := by
  intro l J W hW hJ hY h0
  obtain ⟨v, hv0, hv1⟩ := hdV_nat h.2.2.1
  have HV := Lib.hid hv0
  have c0 := (hg.below hW hg.lt).one
  have HO := Lib.hid (h.below (hW.mono hB))
  have HJ := Lib.hid hJ
  rw [hv0, Int.toNat_natCast] at hY
  have HY := Lib.hid hY
  have H0 := Lib.hid h0
  have HB := Lib.hid (Nat.le_trans hB hW.size)
  clear hg h hJ hY h0 hv0
  refine callsIn_of_wp Try.func45 rfl trivial ?_
  simp only [Try.ntmps45, List.size_toArray, List.length_cons, List.length_nil, Nat.reduceAdd, Nat.reduceSub, Array.replicate_succ, Array.replicate_zero, List.push_toArray, List.append_toArray, List.nil_append, List.cons_append]
  gi_wp2_with (refine ⟨trivial, ?_⟩; gi_at_call 46; refine (callsIn_wide.2 (head_any B _ _ _ bs _ HO.out)).mono ?_; rintro e w1 ⟨A1, c1, rfl, ho1, hb1⟩; rw [HV.out]; have HO1 := Lib.hid ho1; have HB1 := Lib.hid hb1; clear ho1 hb1)
  gi_loopw [4, 14] (fun u t wr => PRel B v bs J u t wr) (fun _ t _ => v - (intOf t).toNat)
  case atStart => exact ⟨0, [], _, c1, A1, rfl, Nat.zero_le _, rfl, rfl, Nat.le_trans HB.out HB1.out.size, HO1.out, HJ.out _ _ _ H0.out HB1.out⟩
  case round =>
    obtain ⟨k, pre, nR, cR, R, rfl, hk, rfl, hpre, hbw, hoc, hj⟩ := hrel
    have HOC := Lib.hid hoc
    have HJS := Lib.hid hj
    have HBW := Lib.hid hbw
    have HPRE := Lib.hid hpre
    have hl := hoc.1
    have hnc := hoc.2.1
    obtain ⟨v2, hv2, hv3⟩ := hdV_nat hoc.2.2.1
    have HV2 := Lib.hid hv2
    have HLEN := Lib.hid hl
    clear hoc hj hpre hbw hv2 hl
    by_cases hlt : k < v
    · gi_wp2_with (refine ⟨trivial, ?_⟩; gi_at_call 46; refine (callsIn_wide.2 (head_any B _ _ _ _ _ HOC.out)).mono ?_; rintro e w2 ⟨A2, c2, rfl, ho2, hb2⟩; rw [HV2.out]; have hn2 := ho2.2.1; have HO2 := Lib.hid ho2; have HB2 := Lib.hid hb2; clear ho2 hb2)
      refine ⟨trivial, ?_⟩
      have HM : Hid (min ((v2 : Int) * 4) ((nR - 1 : Nat) : Int) = ((endOf (restOf (bs.drop 1) k) : Nat) : Int)) := Lib.hid (by unfold endOf; rw [HV2.out, HLEN.out]; omega)
      have HQ : Hid (stepR (restOf (bs.drop 1) k) = (List.drop 1 (restOf (bs.drop 1) k)).drop (endOf (restOf (bs.drop 1) k))) := Lib.hid rfl
      have HF : Hid (firstP (restOf (bs.drop 1) k) = insOf ((List.drop 1 (restOf (bs.drop 1) k)).take (endOf (restOf (bs.drop 1) k)))) := Lib.hid rfl
      have hq : endOf (restOf (bs.drop 1) k) ≤ nR - 1 := by have := endOf_le (restOf (bs.drop 1) k); rw [HLEN.out] at this; exact this
      have hq2 : endOf (restOf (bs.drop 1) k) ≤ 1020 := by unfold endOf; rw [HV2.out]; omega
      rw [HM.out]
      simp only [Int.toNat_natCast]
      generalize endOf (restOf (bs.drop 1) k) = q at HQ HF hq hq2
      clear HM
      refine (callsIn_wide.2 (instrs_any A2 q c2 w2)).mono ?_
      rintro e w3 ⟨rfl, rfl⟩
      have HB3 := Lib.hid ((Below.refl w2.heap.size w2).alloc (Nat.le_refl _) (.cells #[.slice A2 q c2] 35))
      have HS3 : Hid (B ≤ w2.heap.size) := Lib.hid (Nat.le_trans HBW.out HB2.out.size)
      have HC := Lib.hid (collect_instrs B w2.heap.size A2 q c2 _ (w2.alloc (.cells #[.slice A2 q c2] 35)) (Bk.new _ _ _) ((HO2.out.take hq).below (HB3.out.mono HS3.out)) (Nat.le_trans HS3.out HB3.out.size) (by rw [List.length_take]; omega))
      rw [← HF.out] at HC
      generalize w2.alloc (.cells #[.slice A2 q c2] 35) = w3 at *
      have HPP : Hid (progsOf (bs.drop 1) (k + 1) = progsOf (bs.drop 1) k ++ [firstP (restOf (bs.drop 1) k)]) := Lib.hid (progsOf_succ _ _)
      have HPL : Hid (pre.length = k) := Lib.hid (by have := congrArg List.length HPRE.out; rw [List.length_map, progsOf_len] at this; exact this)
      generalize firstP (restOf (bs.drop 1) k) = p at HF HC HPP
      generalize hr : p.length = r
      have HR := Lib.hid hr
      clear hr
      gi_wp2_with (first
        | (refine ⟨trivial, ?_⟩; gi_at_call 47; refine (callsIn_wide.2 HC.out).mono ?_; rintro e w5 ⟨A5, c5, rfl, ho5, hb5⟩
           rw [HR.out]
           have HS5 := Lib.hid (Nat.le_trans HS3.out HB3.out.size)
           have HBW5 := Lib.hid (((HB2.out.trans (HB3.out.mono HB2.out.size)).trans (hb5.mono (Nat.le_trans HB2.out.size HB3.out.size))))
           have HB25 := Lib.hid (HB3.out.trans (hb5.mono HB3.out.size))
           obtain ⟨fn, tmps, assign, body, hy, hR⟩ := HY.out pre ((A5, r, c5), p) w5 (HJ.out _ _ _ HJS.out HBW5.out) ⟨HR.out.symm, ho5.1, ho5.2.1, ho5.2.2.mono HS5.out⟩ (by rw [HPL.out]; exact hlt)
           dsimp only [encPr, hv] at hy
           clear ho5 hb5)
        | (refine hR.mono ?_; rintro e W3 ⟨rfl, hJ3, hk3⟩))
      refine ⟨⟨k + 1, pre ++ [((A5, r, c5), p)], _, _, _, rfl, by omega, rfl, by rw [HPP.out, ← HPRE.out]; simp, Nat.le_trans HS3.out (Nat.le_trans HB25.out.size hk3.size), ?_, hJ3⟩, by simp [intOf]; omega⟩
      rw [restOf, HQ.out]
      exact ((HO2.out.stepO hq).below (HB25.out.mono HS3.out)).below hk3
    · obtain rfl : k = v := by omega
      gi_wp2
      go_end0
      exact ⟨⟨_, rfl⟩, pre, by rw [HPRE.out]; unfold parse; rw [HV.out]; rfl, HJS.out⟩

end Go.Proofs.Ytcbgmhbmdklbfaa
