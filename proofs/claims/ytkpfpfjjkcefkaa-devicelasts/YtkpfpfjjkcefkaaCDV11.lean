import Derived.Test.YtkpfpfjjkcefkaaCDV10
namespace Go.Proofs.Ytkpfpfjjkcefkaa
open Go.RowKit Go.Maps

/-- what becomes of the pages, and of what is pending: writes that end, each with so many bytes that last -/
def stL (L : List (List UInt8)) (t : List ((Nat × List UInt8) × Nat)) : List (List UInt8) := t.foldl (fun L x => L.set x.1.1 (torn x.1.2 L[x.1.1]! x.2)) L
def stP (p : Nat → Option (List UInt8)) (t : List ((Nat × List UInt8) × Nat)) : Nat → Option (List UInt8) := t.foldl (fun p x => dlt p x.1.1) p
theorem stL_len (t : List ((Nat × List UInt8) × Nat)) : ∀ L : List (List UInt8), (stL L t).length = L.length := by
  induction t with
  | nil => intro L; rfl
  | cons x t ih => intro L; exact (ih _).trans (by rw [List.length_set])
theorem stL_snoc (L : List (List UInt8)) (t : List ((Nat × List UInt8) × Nat)) (x : (Nat × List UInt8) × Nat) : stL L (t ++ [x]) = (stL L t).set x.1.1 (torn x.1.2 (stL L t)[x.1.1]! x.2) := by simp [stL, List.foldl_append]
theorem stP_snoc (p : Nat → Option (List UInt8)) (t : List ((Nat × List UInt8) × Nat)) (x : (Nat × List UInt8) × Nat) : stP p (t ++ [x]) = dlt (stP p t) x.1.1 := by simp [stP, List.foldl_append]
theorem stP_at (i : Nat) : ∀ (t : List ((Nat × List UInt8) × Nat)) (p : Nat → Option (List UInt8)), stP p t i = if i ∈ t.map (fun x => x.1.1) then none else p i := by
  intro t
  induction t with
  | nil => intro p; simp [stP]
  | cons x t ih =>
    intro p
    rw [show stP p (x :: t) = stP (dlt p x.1.1) t from rfl, ih, dlt, List.map_cons]
    by_cases e : i = x.1.1
    · rw [if_pos e, if_pos (List.mem_cons.2 (.inl e))]; split <;> rfl
    · rw [if_neg e]
      by_cases m : i ∈ t.map (fun x => x.1.1)
      · rw [if_pos m, if_pos (List.mem_cons.2 (.inr m))]
      · rw [if_neg m, if_neg (fun h => (List.mem_cons.1 h).elim e m)]
/-- what is pending, and of each so many bytes -/
def tks (n : Nat) (p : Nat → Option (List UInt8)) (ks : Nat → Nat) : List ((Nat × List UInt8) × Nat) := (pls n p).mapIdx fun k x => (x, ks k)
theorem tks_len (n : Nat) (p : Nat → Option (List UInt8)) (ks : Nat → Nat) : (tks n p ks).length = (pls n p).length := by simp [tks]
theorem tks_at (n : Nat) (p : Nat → Option (List UInt8)) (ks : Nat → Nat) {k : Nat} (hk : k < (pls n p).length) : (tks n p ks)[k]'(by rw [tks_len]; exact hk) = ((pls n p)[k], ks k) := by simp [tks]
theorem tks_take (n : Nat) (p : Nat → Option (List UInt8)) (ks : Nat → Nat) {k : Nat} (hk : k < (pls n p).length) : (tks n p ks).take (k + 1) = (tks n p ks).take k ++ [((pls n p)[k], ks k)] := by
  rw [take_snoc _ (by rw [tks_len]; exact hk), tks_at n p ks hk]
theorem tks_fst (n : Nat) (p : Nat → Option (List UInt8)) (ks : Nat → Nat) : (tks n p ks).map (fun x => x.1.1) = pks n p := by
  apply List.ext_getElem
  · rw [List.length_map, tks_len, pls_len]
  · intro k h1 h2
    simp [tks, pls]
theorem stP_none {n : Nat} {p : Nat → Option (List UInt8)} {D : DataW Unit} (h : Pn n p D) (ks : Nat → Nat) : stP p (tks n p ks) = fun _ => none := by
  funext i
  rw [stP_at, tks_fst]
  split
  · rfl
  · next hn =>
    cases hp : p i with
    | none => rfl
    | some s => exact absurd (pks_mem.2 ⟨(h.dom i s hp).1, by rw [hp]; rfl⟩) hn
theorem pls_mem {n : Nat} {p : Nat → Option (List UInt8)} {D : DataW Unit} (h : Pn n p D) {k : Nat} (hk : k < (pls n p).length) : ((pls n p)[k]).1 < n ∧ ((pls n p)[k]).2.length = 256 ∧ p ((pls n p)[k]).1 = some ((pls n p)[k]).2 := by
  have hk' : k < (pks n p).length := by rw [← pls_len]; exact hk
  have e : (pls n p)[k] = ((pks n p)[k], (p (pks n p)[k]).getD []) := by simp [pls]
  have hm := pks_mem.1 (List.getElem_mem hk')
  rw [e]
  obtain ⟨s, hs⟩ := Option.isSome_iff_exists.1 hm.2
  have hd := h.dom _ s hs
  refine ⟨hm.1, ?_, ?_⟩
  · show ((p (pks n p)[k]).getD []).length = 256
    rw [hs]; exact hd.2
  · show p (pks n p)[k] = some ((p (pks n p)[k]).getD [])
    rw [hs]; rfl
theorem OwnW.at2 {w : World} {v : Value} {l : List (Nat × List UInt8)} (h : OwnW w v l) {j : Nat} (hj : j < l.length) : ∃ g cap, v = .slice (some ⟨g, 0, none⟩) l.length cap ∧ cap ≤ maxLen ∧ l.length ≤ cap ∧ g < w.heap.size ∧
    w.cell? ⟨g, j * 2, none⟩ = some (.int .i64 ((l[j]).1 : Int)) ∧ w.cell? ⟨g, j * 2 + 1, none⟩ = some (.string ⟨(l[j]).2.toArray⟩) := by
  rcases h with ⟨_, e, _⟩ | ⟨g, cap, rfl, h1, h2, h3, h4, h5, h6⟩
  · omega
  have key : ∀ (l : List (Nat × List UInt8)) (j : Nat) (hj : j < l.length), (wcs l)[j * 2]? = some (.int .i64 ((l[j]).1 : Int)) ∧ (wcs l)[j * 2 + 1]? = some (.string ⟨(l[j]).2.toArray⟩) := by
    intro l
    induction l with
    | nil => intro j hj; simp at hj
    | cons x l ih =>
      intro j hj
      rcases j with _ | j
      · exact ⟨rfl, rfl⟩
      · have := ih j (by simpa using hj)
        rw [show (j + 1) * 2 = j * 2 + 1 + 1 by omega]
        exact this
  refine ⟨g, cap, rfl, h2, h1, h6, ?_, ?_⟩
  · have := h4 _ _ (key l j hj).1; rwa [Nat.zero_add] at this
  · have := h4 _ _ (key l j hj).2; rwa [Nat.zero_add] at this
theorem OwnM.kp {m : Nat} {a g b : Nat} {w w' : World} {v : Value} {n : Nat} {cs : List Value} (h : OwnM m w v n cs) (hk : Kp a g b w w') (hne : ∀ k, v.ownBlock = some k → k ≠ a ∧ k ≠ g ∧ k ≠ b) : OwnM m w' v n cs :=
  h.kept hk.size fun q hq => hk.block q (h.lt q hq) (hne q hq).1 (hne q hq).2.1 (hne q hq).2.2
set_option maxRecDepth 100000 in
set_option maxHeartbeats 2000000 in
theorem flush1 {w : World} {q a g b : Nat} {L : List (List UInt8)} {p : Nat → Option (List UInt8)} {left : Nat} {dead : Bool} (h : Dv w a g b L p left dead) (hq : w.cell? ⟨q, 0, none⟩ = some (.pointer (some ⟨a, 0, none⟩))) (hqa : q ≠ a) (hqg : q ≠ g) (hqb : q ≠ b) :
    Calls Try.prog 38 #[.pointer (some ⟨q, 0, none⟩)] w fun r w' => r = .returned (.tuple #[]) ∧ Dv w' a g b (stL L (tks L.length p fun _ => 256)) (fun _ => none) left dead ∧ Kp a g b w w' := by
  have i1 := dPending h
  have hql : q < w.heap.size := block_lt_of_cell hq
  have hal := h.al
  have hgl := h.gl
  have hbl := h.bl
  have HH := hid h
  obtain ⟨D, _, hP⟩ := h.mp
  have HP := hid hP
  have HQ := hid hq
  clear h hP
  go_enter Try.func38, Try.ntmps38
  go_wp2_with (go_at_call 17; fail)
  refine i1.mono ?_
  rintro r w1 ⟨v, rfl, hO, hge, b1⟩
  have H1 := hid (HH.out.below b1 (Nat.le_refl _))
  obtain ⟨N, hN⟩ : ∃ N, (pls L.length p).length = N := ⟨_, rfl⟩
  obtain ⟨av, cv, hv, hcv1, hcv2⟩ := hO.shape
  rw [hN] at hv hcv1
  have HO := hid hO
  have HV := hid hge
  have B1 := hid b1
  have HN := hid hN
  subst hv
  have z1 := b1.size
  clear i1 hO hge b1 hN
  go_wp2
  go_loopw [6] (fun i w' => ∃ k : Nat, k ≤ N ∧ i = .int .i64 (k : Int) ∧ Hid (Dv w' a g b (stL L ((tks L.length p fun _ => 256).take k)) (stP p ((tks L.length p fun _ => 256).take k)) left dead) ∧ Hid (Kp a g b w1 w')) (fun i _ => N - (RowKit.intOf i).toNat)
  case atStart => exact ⟨0, by omega, rfl, H1, hid (Kp.refl _ _ _ _)⟩
  case round =>
    obtain ⟨k, hk, rfl, hD, hK⟩ := hrel
    by_cases hkn : k < N
    · have c0 : (k : Int) < (N : Int) := by omega
      have kp : (0 : Int) ≤ (k : Int) := by omega
      have hN := HN.out
      have hkl : k < (pls L.length p).length := by omega
      obtain ⟨gv, cv', e, _, _, hgv, x0, x1⟩ := OwnW.at2 (HO.out.kp hK.out (fun j hj => by have := HV.out j hj; omega)) hkl
      injection e with e1 e2 e3
      subst e1
      obtain ⟨y1, y2, y3⟩ := pls_mem HP.out hkl
      have hsn := tks_take L.length p (fun _ => 256) hkl
      have q2 : wr.cell? ⟨q, 0, none⟩ = some (.pointer (some ⟨a, 0, none⟩)) := by
        rw [World.cell?_of_block (hK.out.block q (by omega) hqa hqg hqb), B1.out.cell (p := ⟨q, 0, none⟩) hql]; exact HQ.out
      obtain ⟨⟨i, s⟩, his⟩ : ∃ x, (pls L.length p)[k] = x := ⟨_, rfl⟩
      rw [his] at x0 x1 y1 y2 hsn
      have b5 := (Below.refl wr.heap.size wr).alloc (Nat.le_refl _) (.cells #[.int .i64 (i : Int), .string ⟨s.toArray⟩] 52)
      have r5 := heap_alloc_new wr (.cells #[.int .i64 (i : Int), .string ⟨s.toArray⟩] 52)
      obtain ⟨w5, hw5⟩ : ∃ w5, wr.alloc (.cells #[.int .i64 (i : Int), .string ⟨s.toArray⟩] 52) = w5 := ⟨_, rfl⟩
      rw [hw5] at b5 r5
      have hz5 : q < wr.heap.size := block_lt_of_cell q2
      have q5 := (b5.cell (p := ⟨q, 0, none⟩) hz5).trans q2
      have u0 : w5.cell? ⟨wr.heap.size, 0, none⟩ = some (.int .i64 (i : Int)) := by rw [cell_of_row _ _ _ _ _ _ r5]; rfl
      have u1 : w5.cell? ⟨wr.heap.size, 1, none⟩ = some (.string ⟨s.toArray⟩) := by rw [cell_of_row _ _ _ _ _ _ r5]; rfl
      have i5 := settle_any (hD.out.below b5 (Nat.le_refl _)) (i := i) (by rw [stL_len]; exact y1) y2 (n := 256) (by omega)
      have eL : (stL L ((tks L.length p fun _ => 256).take k)).set i (torn s (stL L ((tks L.length p fun _ => 256).take k))[i]! 256) = stL L ((tks L.length p fun _ => 256).take (k + 1)) := by
        rw [hsn]; exact (stL_snoc L _ ((i, s), 256)).symm
      have eP : dlt (stP p ((tks L.length p fun _ => 256).take k)) i = stP p ((tks L.length p fun _ => 256).take (k + 1)) := by
        rw [hsn]; exact (stP_snoc p _ ((i, s), 256)).symm
      rw [eL, eP] at i5
      have K5 := hid (hK.out.trans (Kp.ofBelow b5))
      clear hD hK b5 r5 hsn his y1 y2 y3 hN hkl e2 e3 eL eP
      go_wp2_with (go_at_call 39; refine i5.mono ?_; rintro r w6 ⟨rfl, hD6, hK6⟩)
      exact ⟨⟨k + 1, by omega, by go_num, hid hD6, hid (K5.out.trans hK6)⟩, by simp [RowKit.intOf]; omega⟩
    · obtain rfl : k = N := by omega
      have c0 : ¬ (k : Int) < (k : Int) := by omega
      go_wp2
      go_end0
      have hD := hD.out
      rw [List.take_of_length_le (by rw [tks_len, HN.out]; omega), stP_none HP.out] at hD
      exact ⟨rfl, hD, (Kp.ofBelow B1.out).trans hK.out⟩
end Go.Proofs.Ytkpfpfjjkcefkaa
