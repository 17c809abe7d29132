import Derived.Test.YtiehafkbkbeijaaPkKP8
import Derived.Deep.LoopGhost
/- Layer 15, the program: Keys -/
namespace Go.Proofs.Ytiehafkbkbeijaa
open Go.RowKit Go.Maps
namespace Kc
theorem make_T (w : World) (c : Nat) (hc : c ≤ 17592186044416) :
    ∃ w', (Instr.makeSlice 33 (.int .i64 0) (.int .i64 (c : Int))).run Try.prog w = .ok (.slice (some ⟨w.heap.size, 0, none⟩) 0 c) w' ∧ Own w' w.heap.size (.slice (some ⟨w.heap.size, 0, none⟩) 0 c) (svs []) ∧ Below w.heap.size w w' := by
  obtain ⟨i0, hi, hz0, hz1, hz2⟩ := info_parts infoS
  obtain ⟨w', h1, h2, h3⟩ := run_make_own (P := Try.prog) w w.heap.size 33 9 i0 (.string ⟨#[]⟩) 1 Try.underlying33 hi hz0 hz1 .i64 .i64 c (by rw [hz2]; omega) (by rw [maxLen]; omega) (Nat.le_refl _)
  refine ⟨w', h1, ?_, Below.ofGrown (v := .slice none 0 0) h3 (fun k hk => by cases hk) (Nat.le_refl _)⟩
  rcases h2.2 with ⟨h, _⟩ | ⟨g, cap, cur, hv, hg, hh, _, hm, hs, _⟩
  · cases h
  · injection hv with e1 e2 e3
    injection e1 with e1
    injection e1 with e1
    subst e1 e3
    exact .inr ⟨_, _, rfl, Nat.le_refl _, by simp [svs], hm, fun j v hj => by simp [svs] at hj, there_of_row hh 0 _ (by rw [hs]; omega), lt_of_heap hh⟩
def keys (L : List En) : List (List UInt8) := L.map En.k
set_option maxRecDepth 100000 in
set_option maxHeartbeats 2000000 in
theorem keys_any {w : World} {a : Nat} {g : Option Nat} {B c : Nat} {L : List En} {f m o : Nat} (h : Ch w a g B c L f m o) (hl : L.length ≤ 1000000) :
    Calls Try.prog 11 #[.pointer (some ⟨a, 0, none⟩)] w fun r w' => ∃ v, r = .returned v ∧ Own w' w.heap.size v (svs (keys L)) ∧ Below w.heap.size w w' := by
  have c4 := h.li.cs.2.2.2.2.1
  obtain ⟨n, hn⟩ : ∃ n, L.length = n := ⟨_, rfl⟩
  rw [hn] at c4
  obtain ⟨w1, r1, O1, B1⟩ := make_T w n (by omega)
  have c1 := (B1.cell (p := ⟨a, 1, none⟩) (h.li.lt a (fp_a _ _))).trans h.li.cs.2.1
  have O1 := hid O1
  have B1 := hid B1
  have HS := hid h.li.seg
  have HL := hid hl
  obtain ⟨P0, hP0⟩ : ∃ P0, pv (hd L none) = P0 := ⟨_, rfl⟩
  rw [hP0] at c1
  have HP0 := hid hP0
  obtain ⟨q, hq⟩ : ∃ q, w.heap.size = q := ⟨_, rfl⟩
  rw [hq] at O1 B1
  have HQ := hid hq
  clear hP0 h hn hl
  go_enter Try.func11, Try.ntmps11
  go_wp2_with (go_at_call 18; refine (orNone_some _ _).mono ?_; rintro r w9 ⟨rfl, hw9⟩; replace hw9 := hw9.symm; subst hw9)
  go_loopg [3, 4] L.length (fun k v p wr => ∃ X Y, k = Y.length ∧ p = pv (hd Y none) ∧ Hid (L = X ++ Y) ∧ Hid (Own wr q v (svs (keys X))) ∧ Hid (Below q w wr))
  case atStart => exact ⟨[], L, rfl, HP0.out.symm, rfl, O1, B1⟩
  case round =>
    obtain ⟨X, Y, hk, rfl, hL, O, Bw⟩ := hrel
    cases Y with
    | nil =>
      rw [show pv (hd [] none) = .pointer none from rfl]
      go_wp2
      go_ret
      have := hL.out
      rw [List.append_nil] at this
      rw [this]
      exact ⟨_, rfl, by rw [HQ.out]; exact O.out, by rw [HQ.out]; exact Bw.out⟩
    | cons y Y =>
      rw [show pv (hd (y :: Y) none) = .pointer (some ⟨y.b, 0, none⟩) from rfl]
      have S : Seg w none (X ++ y :: Y) none := by rw [← hL.out]; exact HS.out
      have P : pl w y (ls none X) (hd Y none) := (seg_append.1 S).2.1
      have Pw : pl wr y (ls none X) (hd Y none) := (Bw.out.block y.b (by have := lt_of_heap P; have := HQ.out; omega)).trans P
      obtain ⟨p0, _, _, _, p4⟩ := pl_c Pw
      have hXl : X.length ≤ 1000000 := by have := HL.out; rw [hL.out] at this; simp at this; omega
      obtain ⟨v', w2, hap, O2, B2⟩ := append_text wr q _ (keys X) y.k #[.string ⟨y.k.toArray⟩] rfl O.out (by unfold keys; simp; omega) (by have := Bw.out.size; have := HQ.out; omega)
      have O2 := hid O2
      have B2 := hid (Bw.out.trans B2)
      have hk' : Hid (Y.length < gk) := by show _ < _; rw [hk]; simp
      have hL' : Hid (L = (X ++ [y]) ++ Y) := by show _ = _; rw [hL.out]; simp
      have hO2 : Hid (Own w2 q v' (svs (keys (X ++ [y])))) := by
        have := O2.out
        show Own _ _ _ _
        rw [show keys (X ++ [y]) = keys X ++ [y.k] by simp [keys]]
        exact this
      obtain ⟨P1, hP1⟩ : ∃ P1, pv (hd Y none) = P1 := ⟨_, rfl⟩
      rw [hP1] at p4
      have HP1 := hid hP1
      have p4' : w2.cell? ⟨y.b, 4, none⟩ = some P1 := by
        rw [← hP1]
        exact (pl_c (show pl w2 y (ls none X) (hd Y none) from (B2.out.block y.b (by have := lt_of_heap P; have := HQ.out; omega)).trans P)).2.2.2.2
      clear hk S P Pw hXl hP1
      generalize y.k = yk at *
      go_wp2_with (at_builtin; go_must (refine Lib.wpList_append_run _ rfl _ _ 33 33 rfl _ _ rfl rfl _ _ hap ?_))
      go_roundg Y.length
      case measure => exact hk'.out
      case rel => exact ⟨X ++ [y], Y, rfl, HP1.out.symm, hL', hO2, B2⟩
end Kc
end Go.Proofs.Ytiehafkbkbeijaa
