import Derived.Test.YtblmaokonhdjaaaGreatDoorPkBM4
import Derived.Test.YtblmaokonhdjaaaGreatDoorPkPP4
import Derived.Laws.ResultCell
import Derived.Test.YtblmaokonhdjaaaGreatDoorPkSH5
import Derived.Test.YtblmaokonhdjaaaGreatDoorPkTL15
import Derived.Test.YtblmaokonhdjaaaGreatDoorPkO9
import Derived.Test.YtblmaokonhdjaaaGreatDoorPkPR1
/- Layer 14, the program: a joiner takes, and tells -/
namespace Go.Proofs.YtblmaokonhdjaaaGreatDoor
open Go.RowKit Go.Shelf
namespace Spn
theorem step_call14 {P : Program} {ops : Array Oper} {o : Oper} {a : Act} {w : World} {K : Act → World → Prop} {Q : Exit → Act → World → Prop} {E : Prop}
    (hg : o.guard = none) (f : FuncId) (args : Array Value) (he : (execOp a.eval o).run P w = .ok (.enter f args) w)
    (R : Value → World → Prop) (hc : Calls P f args w fun e w' => ∃ v, e = .returned v ∧ R v w') (hK : ∀ v w', R v w' → K (a.put o.dst v) w') :
    if Region.wanted o (yielded ops a.tmps) = true then Oper.wp P o a w K Q else E := by
  have hw : Region.wanted o (yielded ops a.tmps) = true := by simp [Region.wanted, hg]
  rw [if_pos hw]
  unfold Oper.wp
  rw [he, Oper.upon_enter]
  refine hc.mono ?_
  rintro e w' ⟨v, rfl, h⟩
  exact hK v w' h
theorem append_tx14 (w : World) (v : Value) (l : List (List UInt8)) (x : List UInt8) (h : OwnM 1 w v l.length (svs l)) (hl : l.length ≤ 8000000000000) :
    ∃ v' w', (Builtin.append_ #[22, 22] 22 #[v, .slice (some ⟨w.heap.size, 0, none⟩) 1 1]).run Tryz.prog (w.alloc (.cells #[sv x] 9)) = .ok v' w' ∧ OwnM 1 w' v' (l ++ [x]).length (svs (l ++ [x])) ∧ Grow w w' v v' := by
  obtain ⟨v', w', h1, h2, h3⟩ := append_oneL 22 9 (.string ⟨#[]⟩) 16 Tryz.underlying22 infoTx14 rfl w v l.length (svs l) [sv x] rfl (fun u hu => by
    simp only [List.mem_cons, List.not_mem_nil, or_false] at hu
    subst hu; rfl) h (by omega) (by rw [maxLen]; omega)
  exact ⟨v', w', h1, by rw [List.length_append, svs_app]; exact h2, h3⟩
theorem OwnM.keepS {w w' : World} {v : Value} {n : Nat} {cs : List Value} {S : Nat → Prop} (h : OwnM 1 w v n cs) (hk : Keep S w w') (hs : ∀ k, v.ownBlock = some k → ¬ S k) : OwnM 1 w' v n cs := OwnM.keep h hk hs
theorem een_tx14 (n c : Nat) (w : World) : (binOp .eql 22 (.slice none n c) (.slice none 0 0)).run Tryz.prog w = .ok (.bool true) w := by kernel_rfl
theorem nen_tx14 (x : Addr) (n c : Nat) (w : World) : (binOp .eql 22 (.slice (some x) n c) (.slice none 0 0)).run Tryz.prog w = .ok (.bool false) w := by kernel_rfl
theorem own_empty14 (w : World) : OwnM 1 (w.alloc (.cells #[] 9)) (.slice (some ⟨w.heap.size, 0, none⟩) 0 0) 0 [] :=
  .inr ⟨w.heap.size, 0, rfl, Nat.le_refl _, by rw [maxLen]; omega, rfl, (fun j v hv => by simp at hv), (fun j hj => by omega), by simp⟩
set_option maxRecDepth 100000 in
set_option maxHeartbeats 4000000 in
/-- slices.Clone -/
theorem cloneT14 (a : Option Addr) (cap : Nat) (L : List (List UInt8)) (w : World) (hA : At w a L) (hlen : L.length ≤ 1000000000000) :
    Calls Tryz.prog 49 #[.slice a L.length cap] w fun r w' => ∃ v, r = .returned v ∧ OwnM 1 w' v L.length (svs L) ∧ (∀ k, v.ownBlock = some k → w.heap.size ≤ k) ∧ Below w.heap.size w w' := by
  cases a with
  | none =>
    have hL : L = [] := by
      cases L with
      | nil => rfl
      | cons x L =>
        obtain ⟨y, hy, _⟩ := hA 0 x rfl
        cases hy
    subst hL
    have he := een_tx14 0 cap
    clear hA
    go_enter Tryz.func49, Tryz.ntmps49
    go_wp2
    go_ret
    exact ⟨_, rfl, OwnM.nil 1 _, (fun k hk => by cases hk), Below.refl _ _⟩
  | some x =>
    have b0 := (Below.refl w.heap.size w).alloc (Nat.le_refl _) (.cells #[] 9)
    obtain ⟨v', w', hap, hO, hG⟩ := append_txs (w.alloc (.cells #[] 9)) _ [] (some x) cap L (own_empty14 w) (hA.below b0 (Nat.le_refl _)) (by simp; omega)
    rw [List.nil_append] at hO
    have hne := nen_tx14 x L.length cap
    obtain ⟨f1, b1⟩ := grow_fresh (B := w.heap.size) hG (by rw [size_alloc]; omega) (fun k hk => by cases hk; exact Nat.le_refl _)
    have HO := hid hO
    have HV := hid f1
    have HB := hid (b0.trans b1)
    generalize L.length = m at *
    clear hA hO hG b0 f1 b1
    go_enter Tryz.func49, Tryz.ntmps49
    go_wp2_with (at_builtin; go_must (refine Lib.wpList_append_run _ rfl _ _ 22 22 rfl _ _ rfl rfl _ _ hap ?_))
    go_ret
    exact ⟨_, rfl, HO.out, HV.out, HB.out⟩
set_option maxRecDepth 100000 in
set_option maxHeartbeats 2000000 in
/-- Entries -/
theorem jEntries {w : World} {g : Nat} {a e : Int} {v : Value} {L : List (List UInt8)} (J : JnI w g a e v) (O : OwnM 1 w v L.length (svs L)) (hl : L.length ≤ 1000000000000) : Calls Tryz.prog 22 #[.pointer (some ⟨g, 0, none⟩)] w fun r w' => ∃ v, r = .returned v ∧ OwnM 1 w' v L.length (svs L) ∧ (∀ k, v.ownBlock = some k → w.heap.size ≤ k) ∧ Below w.heap.size w w' := by
  obtain ⟨aL, cL, rfl, hat, _, _⟩ := ownM_at O
  have i1 := jOrNone g
  have i2 := cloneT14 aL cL L w hat hl
  have c0 := J.c2
  clear J O hat
  go_enter Tryz.func22, Tryz.ntmps22
  go_wp2_with (first
    | (go_at_call 46; refine (i1 _).mono ?_; rintro r w1 ⟨rfl, h0⟩; have h0 := h0.symm; subst h0)
    | (go_at_call 49; refine i2.mono ?_; rintro r w1 ⟨v1, rfl, o1, f1, b1⟩; have P1 := hid o1; have P2 := hid f1; have P3 := hid b1; clear o1 f1 b1))
  go_ret
  exact ⟨_, rfl, P1.out, P2.out, P3.out⟩
set_option maxRecDepth 100000 in
set_option maxHeartbeats 8000000 in
/-- P5: a chunk that fits is taken -/
theorem jTake_ok {w : World} {g a e : Nat} {v : Value} {Ls : List (List UInt8)} (J : JnI w g (a : Int) (e : Int) v) (O : OwnM 1 w v Ls.length (svs Ls)) (hg : v.ownBlock ≠ some g) (hLs : Ls.length ≤ 100000000000) (E : List (List UInt8)) (h0 : 0 < E.length) (hae : a + E.length ≤ e) (he : e ≤ 1099511627776) (hE : ∀ x ∈ E, x.length ≤ 1000) (aE : Option Addr) (cE : Nat) (hA : At w aE E) (hd : ∀ x, aE = some x → x.block ≠ g ∧ v.ownBlock ≠ some x.block) :
    Calls Tryz.prog 20 #[.pointer (some ⟨g, 0, none⟩), .int .i64 (a : Int), .slice aE E.length cE] w fun r w' => r = .returned (.int .i64 0) ∧ ∃ v', JnI w' g ((a + E.length : Nat) : Int) (e : Int) v' ∧ OwnM 1 w' v' (Ls ++ E).length (svs (Ls ++ E)) ∧ (∀ k, v'.ownBlock = some k → k ≠ g ∧ (v.ownBlock = some k ∨ w.heap.size ≤ k)) ∧ Keep (fun k => k = g ∨ v.ownBlock = some k) w w' := by
  have i1 := jDone J false (by rw [beq_eq_false_iff_ne]; omega)
  have i2 := fun w' hA' => areEntries_yes E hE aE cE w' (by omega) hA'
  have glt := lt_of_heap J
  have HJ := hid J
  have HO := hid O
  have HA := hid hA
  have HE := hid hE
  have HD := hid hd
  obtain ⟨m, hm⟩ : ∃ m, E.length = m := ⟨_, rfl⟩
  have Hm := hid hm
  rw [hm] at i2 h0 hae ⊢
  have q0 : ((m : Int) == 0) = false := by rw [beq_eq_false_iff_ne]; omega
  have q1 : ¬ ((e : Int) - (a : Int) < (m : Int)) := by omega
  have q2 : IntKind.i64.wrap ((e : Int) - (a : Int)) = (e : Int) - (a : Int) := by rw [IntKind.wrap_i64]; omega
  have q3 : ((a : Int) != (a : Int)) = false := by simp
  have q4 : decide ((e : Int) - (a : Int) < (m : Int)) = false := decide_eq_false q1
  have c0 := J.c0
  have c1 := J.c1
  clear J O hA hE hd hm
  go_enter Tryz.func20, Tryz.ntmps20
  go_wp2_with (go_at_call 18; fail)
  refine i1.mono ?_
  rintro r w1 ⟨rfl, m1, hw1⟩
  have J1 : Hid (JnI w1 g (a : Int) (e : Int) v) := by unfold Hid; rw [hw1]; exact HJ.out
  have B1 : Hid (Below w.heap.size w w1) := by unfold Hid; rw [hw1]; exact drewN_below m1
  have Z1 : w1.heap.size = w.heap.size := by rw [hw1]; rfl
  have A1 : Hid (At w1 aE E) := HA.out.below B1.out (Nat.le_refl _)
  have O1 : Hid (OwnM 1 w1 v Ls.length (svs Ls)) := HO.out.below B1.out
  have c0 := J1.out.c0
  have c1 := J1.out.c1
  clear i1 hw1
  go_upto_region 3 with fail
  go_quiet (first | (go_at_call 47; refine Calls.quiet_of_same (i2 _ ?_); exact A1.out))
  rename_i nq
  have J2 : Hid (JnI (w1.drewN nq) g (a : Int) (e : Int) v) := J1.out
  have A2 : Hid (At (w1.drewN nq) aE E) := A1.out.below (drewN_below nq) (Nat.le_refl _)
  have O2 : Hid (OwnM 1 (w1.drewN nq) v Ls.length (svs Ls)) := O1.out.below (drewN_below nq)
  have B2 : Hid (Below w.heap.size w (w1.drewN nq)) := B1.out.trans ((drewN_below nq).mono (by rw [Z1]; exact Nat.le_refl _))
  have Z2 : (w1.drewN nq).heap.size = w.heap.size := Z1
  clear c0 c1 J1 A1 O1 B1 HJ HA HO i2
  generalize w1.drewN nq = w2 at *
  clear Z1
  go_wp2
  go_loopw [8, 45] (fun _ i w' => ∃ (k : Nat) (v' : Value), k ≤ m ∧ i = .int .i64 (k : Int) ∧ Hid (JnI w' g (a : Int) (e : Int) v') ∧ Hid (OwnM 1 w' v' (Ls ++ E.take k).length (svs (Ls ++ E.take k))) ∧ Hid (∀ b, v'.ownBlock = some b → b ≠ g ∧ (v.ownBlock = some b ∨ w.heap.size ≤ b)) ∧ Hid (Keep (fun k => k = g ∨ v.ownBlock = some k) w2 w')) (fun _ i _ => m - (intOf i).toNat)
  case atStart => exact ⟨0, v, by omega, rfl, J2, by rw [List.take_zero, List.append_nil]; exact O2, fun b hb => ⟨fun e => hg (by rw [← e]; exact hb), .inl hb⟩, Keep.refl _ _⟩
  case round =>
    obtain ⟨k, v', hk, rfl, hJ, hO, hV, hK⟩ := hrel
    have glt2 := lt_of_heap hJ.out
    by_cases hkm : k < m
    · have b0 : (k : Int) < (m : Int) := by omega
      have b1 : (0 : Int) ≤ (k : Int) := by omega
      have hkE : k < E.length := by rw [Hm.out]; exact hkm
      have A3 := At.keep14 A2.out hK.out (fun x hx h => by have := HD.out x hx; rcases h with h | h; exact this.1 h; exact this.2 h)
      obtain ⟨y, rfl⟩ := A3.pos (by omega)
      obtain ⟨s, hs, hcell⟩ := A3.cell k hkE
      have hsl : s.size ≤ 1000000 := by
        have := HE.out _ (List.getElem_mem hkE)
        rw [← hs.out, data_length] at this
        omega
      have iS := strClone14 s hsl wr.drew
      have hnx : Hid (Ls ++ E.take (k + 1) = Ls ++ E.take k ++ [s.data.toList]) := by
        unfold Hid
        rw [List.take_add_one, List.getElem?_eq_getElem hkE, List.append_assoc, ← hs.out]
        rfl
      have hll : (Ls ++ E.take k).length ≤ 8000000000000 := by rw [List.length_append, List.length_take]; omega
      generalize Ls ++ E.take k = X at *
      have x0 : wr.drew.cell? ⟨g, 2, none⟩ = some v' := hJ.out.c2
      have f0 : wr.drew.frozen? ⟨g, 2, none⟩ = false := frozen_of_row _ _ 2 _ _ hJ.out
      have hsv : sv s.data.toList = Value.string s := rfl
      clear A3 hs
      go_upto_region 8 with fail
      go_region_law (first
        | (refine step_call14 rfl 48 #[.string s] (by kernel_rfl) (fun v w6 => v = .string s ∧ Below wr.heap.size wr w6) (iS.mono fun e w6 h => ⟨_, h.1, rfl, drewBelow8 h.2⟩) ?_; rintro v6 w6 ⟨rfl, b6⟩; have J6 := hJ.out.below b6; have x1 := J6.c2; obtain ⟨v7, w7, hap, hO7, hG7⟩ := append_tx14 w6 v' X s.data.toList (hO.out.below b6) hll; obtain ⟨a7, c7, hv7, _, _, _⟩ := ownM_at hO7; obtain ⟨p, hp⟩ : ∃ p, (X ++ [s.data.toList]).length = p := ⟨_, rfl⟩; rw [hp] at hv7; clear hp; subst hv7; rw [hsv] at hap; have x1a : (w6.alloc (.cells #[.string s] 9)).cell? ⟨g, 2, none⟩ = some v' := (J6.below ((Below.refl _ _).alloc (Nat.le_refl _) _)).c2; have J7 : JnI w7 g (a : Int) (e : Int) v' := (hG7.old g (lt_of_heap J6) (fun h => (hV.out g h).1 rfl)).trans J6; have x7 := J7.c2; have f7 : w7.frozen? ⟨g, 2, none⟩ = false := frozen_of_row _ _ 2 _ _ J7)
        | (refine step_append_run rfl _ _ 22 rfl _ _ _ w7 rfl rfl hap ?_))
      all_goals
        have hv7 : ∀ b, (Value.slice a7 p c7).ownBlock = some b → b ≠ g ∧ (v.ownBlock = some b ∨ w.heap.size ≤ b) := fun b hb => by
          rcases hG7.alt with h | ⟨h, _⟩
          · rw [h] at hb; exact hV.out b hb
          · have h1 := h b hb
            have h2 := b6.size
            have h3 := hK.out.size
            exact ⟨by omega, .inr (by omega)⟩
        have k6 := hK.out.trans (Keep.ofBelow (S := fun k => k = g ∨ v.ownBlock = some k) b6) (fun _ _ e => e)
        have k7 : Keep (fun k => k = g ∨ v.ownBlock = some k) w2 w7 := ⟨hG7.os.trans k6.os, hG7.tape.trans k6.tape, hG7.output.trans k6.output, Nat.le_trans k6.size hG7.size, fun k hk hs => (hG7.old k (Nat.lt_of_lt_of_le hk k6.size) (fun h => by
          rcases (hV.out k h).2 with h | h
          · exact hs (.inr h)
          · omega)).trans (k6.block k hk hs)⟩
        have K8 := hid (k7.trans (Keep.ofSet (S := fun k => k = g ∨ v.ownBlock = some k) w7 g 2 (.slice a7 p c7) (.inl rfl)) (fun _ _ e => e))
        have J8 := hid (J7.set2 (.slice a7 p c7))
        have O8 := hid (OwnM.keepS hO7 (Keep.ofSet (S := fun k => k = g) w7 g 2 (.slice a7 p c7) rfl) (fun k hk e => (hv7 k hk).1 e))
        have V8 := hid hv7
        rw [← hnx.out] at O8
        clear hap hO7 hG7 J6 J7 x1 x1a x7 f7 b6 k6 k7 hv7 hO hV hK hJ hnx x0 f0
        go_wp2
        exact ⟨⟨k + 1, _, by omega, by go_num, J8, O8, V8, K8⟩, by simp [intOf]; omega⟩
    · obtain rfl : k = m := by omega
      have b0 : ¬ (k : Int) < (k : Int) := by omega
      have c0 := hJ.out.c0
      have f0 : wr.frozen? ⟨g, 0, none⟩ = false := frozen_of_row _ _ 0 _ _ hJ.out
      have hw : IntKind.i64.wrap ((a : Int) + (k : Int)) = ((a + k : Nat) : Int) := by rw [IntKind.wrap_i64]; omega
      have hOO := hO.out
      rw [List.take_of_length_le (by rw [Hm.out]; exact Nat.le_refl _)] at hOO
      have J9 := hid (hJ.out.set0 ((a + k : Nat) : Int))
      have O9 := hid (OwnM.keepS hOO (Keep.ofSet (S := fun k => k = g) wr g 0 (.int .i64 ((a + k : Nat) : Int)) rfl) (fun b hb e => (hV.out b hb).1 e))
      have K2 : Keep (fun k => k = g ∨ v.ownBlock = some k) w w2 := ⟨B2.out.os, B2.out.tape, B2.out.output, B2.out.size, fun k hk _ => B2.out.block k hk⟩
      have K9 := hid ((K2.trans hK.out (fun _ _ e => e)).trans (Keep.ofSet (S := fun k => k = g ∨ v.ownBlock = some k) wr g 0 (.int .i64 ((a + k : Nat) : Int)) (.inl rfl)) (fun _ _ e => e))
      clear hOO K2 hO hK hJ
      obtain ⟨ak, hak⟩ : ∃ ak : Nat, a + k = ak := ⟨_, rfl⟩
      rw [hak] at hw J9 O9 K9
      have Hak := hid hak
      clear hak
      go_wp2
      go_ret
      exact ⟨rfl, _, by rw [show (a : Int) + (k : Int) = (ak : Int) by have := Hak.out; omega]; exact J9.out, by have h := O9.out; rw [List.length_append] at h; exact h, hV.out, K9.out⟩
end Spn
end Go.Proofs.YtblmaokonhdjaaaGreatDoor

/- indices that rise, out of raw numbers: plain mathematics -/
namespace Go.Proofs.YtblmaokonhdjaaaGreatDoor
namespace Bat
/-- a number is put into a list that rises, from here on -/
def goI (c : Int) : List Int → Bool → List Int
  | [], q => if q = true then [] else [c]
  | x :: l, q => if (q || decide (x = c)) = false ∧ c < x then c :: x :: goI c l true else x :: goI c l (q || decide (x = c))
theorem goI_true (c : Int) : ∀ l : List Int, goI c l true = l
  | [] => by simp [goI]
  | x :: l => by rw [goI, if_neg (by simp), Bool.true_or, goI_true c l]
theorem goI_mem (c : Int) : ∀ (l : List Int) (y : Int), y ∈ goI c l false → y = c ∨ y ∈ l
  | [], y, h => by simp [goI] at h; exact .inl h
  | x :: l, y, h => by
    rw [goI] at h
    split at h
    · rcases List.mem_cons.1 h with h | h
      · exact .inl h
      · rw [goI_true] at h; exact .inr h
    · rcases List.mem_cons.1 h with h | h
      · exact .inr (by rw [h]; exact List.mem_cons_self)
      · by_cases e : x = c
        · rw [e] at h
          simp only [decide_true, Bool.or_true, goI_true] at h
          exact .inr (List.mem_cons_of_mem _ h)
        · simp only [e, decide_false, Bool.or_false] at h
          rcases goI_mem c l y h with h | h
          · exact .inl h
          · exact .inr (List.mem_cons_of_mem _ h)
theorem goI_has (c : Int) : ∀ (l : List Int), goI c l false ≠ []
  | [] => by simp [goI]
  | x :: l => by rw [goI]; split <;> simp
theorem goI_len (c : Int) : ∀ (l : List Int), (goI c l false).length ≤ l.length + 1
  | [] => by simp [goI]
  | x :: l => by
    rw [goI]
    split
    · rw [goI_true]; simp
    · by_cases e : x = c
      · simp [e, goI_true]
      · simp only [e, decide_false, Bool.or_false, List.length_cons]
        have := goI_len c l
        omega
theorem goI_up (c : Int) : ∀ (l : List Int), l.Pairwise (· < ·) → (goI c l false).Pairwise (· < ·)
  | [], _ => by simp [goI]
  | x :: l, h => by
    obtain ⟨h1, h2⟩ := List.pairwise_cons.1 h
    rw [goI]
    by_cases e : x = c
    · rw [if_neg (by simp [e])]
      simp only [e, decide_true, Bool.or_true, goI_true]
      rw [e] at h
      exact h
    · simp only [e, decide_false, Bool.or_false]
      by_cases q : c < x
      · rw [if_pos ⟨by simp, q⟩, goI_true]
        refine List.pairwise_cons.2 ⟨fun y hy => ?_, h⟩
        rcases List.mem_cons.1 hy with rfl | hy
        · exact q
        · exact Int.lt_trans q (h1 y hy)
      · rw [if_neg (by simp [q])]
        refine List.pairwise_cons.2 ⟨fun y hy => ?_, goI_up c l h2⟩
        rcases goI_mem c l y hy with rfl | hy
        · omega
        · exact h1 y hy
/-- indices that rise, of the first k raw numbers, each made by p -/
def rgs (p : Int → Int) (raw : List Int) : Nat → List Int
  | 0 => []
  | k + 1 => match raw[k]? with
    | none => rgs p raw k
    | some c => goI (p c) (rgs p raw k) false
theorem rgs_succ {p : Int → Int} {raw : List Int} {k : Nat} (h : k < raw.length) : rgs p raw (k + 1) = goI (p raw[k]) (rgs p raw k) false := by
  rw [rgs, List.getElem?_eq_getElem h]
theorem rgs_up (p : Int → Int) (raw : List Int) : ∀ k, (rgs p raw k).Pairwise (· < ·)
  | 0 => List.Pairwise.nil
  | k + 1 => by
    rw [rgs]
    cases raw[k]? with
    | none => exact rgs_up p raw k
    | some c => exact goI_up _ _ (rgs_up p raw k)
theorem rgs_len (p : Int → Int) (raw : List Int) : ∀ k, (rgs p raw k).length ≤ k
  | 0 => Nat.le_refl _
  | k + 1 => by
    rw [rgs]
    have := rgs_len p raw k
    cases raw[k]? with
    | none => show (rgs p raw k).length ≤ k + 1; omega
    | some c => have := goI_len (p c) (rgs p raw k); show (goI (p c) (rgs p raw k) false).length ≤ k + 1; omega
theorem rgs_in {p : Int → Int} {raw : List Int} {q : Int → Prop} (hq : ∀ c, q (p c)) : ∀ k, ∀ x ∈ rgs p raw k, q x
  | 0, x, h => by cases h
  | k + 1, x, h => by
    rw [rgs] at h
    cases e : raw[k]? with
    | none => rw [e] at h; exact rgs_in hq k x h
    | some c =>
      rw [e] at h
      rcases goI_mem _ _ _ h with h | h
      · rw [h]; exact hq c
      · exact rgs_in hq k x h
theorem rgs_ne {p : Int → Int} {raw : List Int} {k : Nat} (hk : 0 < k) (hr : raw ≠ []) : rgs p raw k ≠ [] := by
  induction k with
  | zero => omega
  | succ k ih =>
    rw [rgs]
    cases e : raw[k]? with
    | some c => exact goI_has _ _
    | none =>
      by_cases h0 : k = 0
      · subst h0
        cases raw with
        | nil => exact absurd rfl hr
        | cons a l => simp at e
      · exact ih (by omega)
theorem rgs_end {p : Int → Int} {raw : List Int} {k : Nat} (hk : raw.length ≤ k) : ∀ m, rgs p raw (k + m) = rgs p raw k
  | 0 => rfl
  | m + 1 => by
    rw [← Nat.add_assoc, rgs, List.getElem?_eq_none (by omega)]
    exact rgs_end hk m
theorem rgs_nil {p : Int → Int} : ∀ k, rgs p [] k = []
  | 0 => rfl
  | k + 1 => by rw [rgs]; exact rgs_nil k
end Bat
end Go.Proofs.YtblmaokonhdjaaaGreatDoor

namespace Go.Proofs.YtblmaokonhdjaaaGreatDoor
open Go.RowKit Go.Shelf
namespace Bat
set_option maxRecDepth 100000 in
set_option maxHeartbeats 4000000 in
/-- a tree of these leaves -/
theorem planted12_any (ht : Int) (L : List (List UInt8)) (hL : Tree.Hs L) (hl : L.length ≤ 1000) (a : Option Addr) (ca : Nat) (w : World) (h1 : -9223372036854775808 ≤ ht) (h2 : ht ≤ 9223372036854775807) (hA : At w a L) (Z : Tb w) :
    Calls Tryz.prog 23 #[.slice a L.length ca, .int .i64 ht] w fun e w' => ∃ (q h : Nat) (F : Nat → Prop), e = .returned (.pointer (some ⟨q, 0, none⟩)) ∧ TrL w' q h L F ∧ (∀ k, F k → w.heap.size ≤ k) ∧ Below w.heap.size w w' := by
  have HZ := hid Z
  have HA := hid hA
  have HL := hid hL
  have hT := Z.lt
  clear Z hA hL
  have p0 := pk_nonneg ht 8 (by omega)
  have p1 := pk_lt ht 8 (by omega)
  have i1 := pick_any ht 8 h1 h2 (by omega) (by omega) w
  obtain ⟨h, hh⟩ : ∃ h : Nat, (h : Int) = 1 + pk ht 8 := ⟨(1 + pk ht 8).toNat, by omega⟩
  have s1 : IntKind.i64.wrap (1 + pk ht 8) = (h : Int) := by rw [wrap_small _ (by omega) (by omega)]; omega
  have new := tNew_any h (by omega) (by omega) w hT
  have HH := hid hh
  generalize pk ht 8 = p at *
  obtain ⟨n, hn⟩ : ∃ n : Nat, Hid (L.length = n) := ⟨_, rfl⟩
  rw [hn.out] at hl ⊢
  clear hh p0 p1
  go_enter Tryz.func23, Tryz.ntmps23
  go_wp2_with (go_at_call 9; refine i1.mono ?_; rintro e w0 ⟨rfl, h0⟩; have h0 := h0.symm; subst h0)
  go_wp2_with (go_at_call 50; fail)
  refine new.mono ?_
  rintro e w1 ⟨q, F1, rfl, E1, hF1, B1⟩
  have E1 := hid E1
  have B1 := hid B1
  have hF1 := hid hF1
  clear new i1 s1
  go_wp2
  go_loopw [7, 8] (fun i _ w' => ∃ (k : Nat) (F : Nat → Prop), k ≤ n ∧ i = .int .i64 (k : Int) ∧ Hid (TrL w' q h (L.take k) F) ∧ Hid (∀ k, F k → w.heap.size ≤ k) ∧ Hid (Below w.heap.size w w')) (fun i _ _ => n - (intOf i).toNat)
  case atStart => exact ⟨0, F1, by omega, rfl, E1, hF1, B1⟩
  case round =>
    clear E1 B1 hF1
    obtain ⟨k, F, hk, rfl, hE, hF, hB⟩ := hrel
    by_cases hkn : k < n
    · have b0 : (k : Int) < (n : Int) := by omega
      have hkc : k < L.length := by rw [hn.out]; exact hkn
      obtain ⟨y, rfl, _, hy⟩ := (HA.out.below hB.out (Nat.le_refl _)) k L[k] (List.getElem?_eq_getElem hkc)
      have hnx := hid (show L.take (k + 1) = L.take k ++ [L[k]] by rw [List.take_add_one, List.getElem?_eq_getElem hkc]; rfl)
      have hlk : (L.take k).length = k := by rw [List.length_take]; omega
      have lr : L[k].length = 32 := HL.out _ (List.getElem_mem hkc)
      generalize L[k] = r at *
      have add := tAdd_any hE.out r lr (by rw [hlk]; omega) (HZ.out.below hB.out hT)
      rw [← hnx.out] at add
      rw [show sv r = Value.string ⟨r.toArray⟩ from rfl] at hy
      have HB := hB
      clear hB hE hnx hlk
      go_wp2_with (go_at_call 51; fail)
      refine add.mono ?_
      rintro e w3 ⟨rfl, F3, E3, M3⟩
      obtain ⟨b3, f3⟩ := M3.below (B := w.heap.size) HB.out.size hF.out
      have B3 := hid (HB.out.trans b3)
      have E3 := hid E3
      have f3 := hid f3
      clear b3 M3 add
      go_wp2
      exact ⟨⟨k + 1, F3, by omega, by go_num, E3, f3, B3⟩, by simp [intOf]; omega⟩
    · obtain rfl : k = n := by omega
      have b0 : ¬ (k : Int) < (k : Int) := by omega
      go_wp2
      go_ret
      have := hE.out
      rw [← hn.out, List.take_length] at this
      exact ⟨q, rfl, h, F, this, hF.out, hB.out⟩
end Bat
end Go.Proofs.YtblmaokonhdjaaaGreatDoor
