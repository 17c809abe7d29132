import Derived.Test.YtiehafkbkbeijaaPkKP3
/- Layer 15, the program: find, the table's lay and take, leave -/
namespace Go.Proofs.Ytiehafkbkbeijaa
open Go.RowKit Go.Maps
namespace Kc
set_option maxRecDepth 100000 in
theorem find_any {w : World} {a c : Nat} {g : Option Nat} {L : List En} (hc : w.cell? ⟨a, 3, none⟩ = some (.map g)) (h : Tb w g c L) (k : List UInt8) (hk : k.length ≤ 9223372036854775807) :
    Calls Try.prog 19 #[.pointer (some ⟨a, 3, none⟩), .string ⟨k.toArray⟩] w fun r w' => r = .returned (.tuple #[pv ((fnd k L).map En.b), .bool (fnd k L).isSome]) ∧ w' = w := by
  cases g with
  | none =>
    rcases h with ⟨_, rfl⟩ | ⟨b, D, h, _⟩
    · have hr : (Instr.lookup mT (.map none) (.string ⟨k.toArray⟩) true).run Try.prog w = .ok (.tuple #[.pointer none, .bool false]) w := by
        have := Maps.look_nil (P := Try.prog) (w := w) true kStr Try.underlying54 (zeroP w) (kl_of k hk)
        exact this
      simp only [fnd, Option.map_none, Option.isSome_none, pv]
      generalize (ByteArray.mk k.toArray) = S at *
      go_enter Try.func19, Try.ntmps19
      go_wp2
      go_ret2
      exact ⟨rfl, rfl⟩
    · cases h
  | some b =>
    have hr := h.look k hk
    generalize pv ((fnd k L).map En.b) = P at *
    generalize (fnd k L).isSome = Q at *
    generalize (ByteArray.mk k.toArray) = S at *
    clear h
    go_enter Try.func19, Try.ntmps19
    go_wp2
    go_ret2
    exact ⟨rfl, rfl⟩
theorem turned_block {w w' : World} {b k : Nat} (h : w.mapTurned w' b) (hk : k ≠ b) (hl : k < w.heap.size) : w'.heap[k]? = w.heap[k]? := h.grown.block k hl (fun e => hk (Option.some.inj e))
theorem keep_turned {S : Nat → Prop} {w w' : World} {b : Nat} (h : w.mapTurned w' b) (hb : S b) : Keep S w w' := ⟨h.grown.os, h.grown.tape, h.grown.output, h.grown.size, fun _ hk h1 => turned_block h (fun e => h1 (e ▸ hb)) hk⟩
theorem turned_size {w w' : World} {b : Nat} (h : w.mapTurned w' b) : w'.heap.size = w.heap.size := by
  obtain ⟨es, cl, es', cl', h1, rfl⟩ := h
  simp [ChangeMaps.setBlock]
set_option maxRecDepth 100000 in
theorem ttake_any {w : World} {a b c : Nat} {X Y : List En} {e : En} {D : DataW Unit} (hc : w.cell? ⟨a, 3, none⟩ = some (.map (some b))) (h : w.ownsMap Try.prog 9 pR b c D) (hd : Md D (X ++ e :: Y)) (hu : Uq (X ++ e :: Y)) (hk : e.k.length ≤ 9223372036854775807) :
    Calls Try.prog 42 #[.pointer (some ⟨a, 3, none⟩), .string ⟨e.k.toArray⟩] w fun r w' => r = .returned (.tuple #[]) ∧ (∃ D', w'.ownsMap Try.prog 9 pR b c D' ∧ Md D' (X ++ Y)) ∧ w.mapTurned w' b := by
  obtain ⟨w', r1, r2, r3⟩ := h.drop kStr Try.underlying54 (kl_of e.k hk) 0
  have P : Hid ((∃ D', w'.ownsMap Try.prog 9 pR b c D' ∧ Md D' (X ++ Y)) ∧ w.mapTurned w' b) := ⟨⟨_, r2, hd.del hu⟩, r3⟩
  clear h hd hu hk r2 r3
  generalize (ByteArray.mk e.k.toArray) = S at *
  go_enter Try.func42, Try.ntmps42
  go_wp2
  go_end0
  exact ⟨rfl, P.out⟩
theorem map_eq_some (b : Nat) (w : World) : (binOp .eql 54 (.map (some b)) (.map none)).run Try.prog w = .ok (.bool false) w := by kernel_rfl
theorem map_eq_none (w : World) : (binOp .eql 54 (.map none) (.map none)).run Try.prog w = .ok (.bool true) w := by kernel_rfl
set_option maxRecDepth 100000 in
theorem tlay_some {w : World} {a b c : Nat} {L : List En} {e : En} {D : DataW Unit} (hc : w.cell? ⟨a, 3, none⟩ = some (.map (some b))) (h : w.ownsMap Try.prog 9 pR b c D) (hd : Md D L) (hk : e.k.length ≤ 9223372036854775807) (hcl : c ≤ 1000000000000) :
    Calls Try.prog 44 #[.pointer (some ⟨a, 3, none⟩), .string ⟨e.k.toArray⟩, .pointer (some ⟨e.b, 0, none⟩)] w fun r w' => r = .returned (.tuple #[]) ∧ (∃ D', w'.ownsMap Try.prog 9 pR b (c + 1) D' ∧ Md D' (e :: L)) ∧ w.mapTurned w' b := by
  obtain ⟨w', r1, r2, r3⟩ := h.store kStr Try.underlying54 (by unfold maxLen; omega) (kl_of e.k hk) (pR_mk e.b)
  have P : Hid ((∃ D', w'.ownsMap Try.prog 9 pR b (c + 1) D' ∧ Md D' (e :: L)) ∧ w.mapTurned w' b) := ⟨⟨_, r2, hd.put h.isMap e⟩, r3⟩
  clear h hd hk r2 r3
  have q := map_eq_some b w
  generalize (ByteArray.mk e.k.toArray) = S at *
  go_enter Try.func44, Try.ntmps44
  go_wp2
  go_end0
  exact ⟨rfl, P.out⟩
set_option maxRecDepth 100000 in
theorem tlay_none {w : World} {a : Nat} {e : En} {x0 x1 x2 x4 x5 x6 x7 x8 x9 : Value} {t : TypeId} (hc : w.heap[a]? = some (.cells #[x0, x1, x2, .map none, x4, x5, x6, x7, x8, x9] t (0, 0))) (hk : e.k.length ≤ 9223372036854775807) :
    Calls Try.prog 44 #[.pointer (some ⟨a, 3, none⟩), .string ⟨e.k.toArray⟩, .pointer (some ⟨e.b, 0, none⟩)] w fun r w' => r = .returned (.tuple #[]) ∧ (∃ D', w'.ownsMap Try.prog 9 pR w.heap.size 1 D' ∧ Md D' [e]) ∧
      w'.heap[a]? = some (.cells #[x0, x1, x2, .map (some w.heap.size), x4, x5, x6, x7, x8, x9] t (0, 0)) ∧ Keep (fun k => k = a) w w' := by
  have al := lt_of_heap hc
  have hne : w.heap.size ≠ a := by omega
  have h0 : ((w.setCell ⟨a, 3, none⟩ (.map (some w.heap.size))).alloc (.map #[] 0)).ownsMap Try.prog 9 pR w.heap.size 0 (.map []) := by
    have := World.ownsMap_made (w.setCell ⟨a, 3, none⟩ (.map (some w.heap.size))) Try.prog 9 pR
    rwa [size_set] at this
  obtain ⟨w', r1, r2, r3⟩ := h0.store kStr Try.underlying54 (by unfold maxLen; omega) (kl_of e.k hk) (pR_mk e.b)
  have c3 : w.cell? ⟨a, 3, none⟩ = some (.map none) := by rw [cell_of_row _ _ _ _ _ _ hc]; rfl
  have f3 : w.frozen? ⟨a, 3, none⟩ = false := frozen_of_row _ _ _ _ _ hc
  have P : Hid ((∃ D', w'.ownsMap Try.prog 9 pR w.heap.size 1 D' ∧ Md D' [e]) ∧
      w'.heap[a]? = some (.cells #[x0, x1, x2, .map (some w.heap.size), x4, x5, x6, x7, x8, x9] t (0, 0)) ∧ Keep (fun k => k = a) w w') := by
    have hs' : ((w.setCell ⟨a, 3, none⟩ (.map (some w.heap.size))).alloc (.map #[] 0)).heap.size = w.heap.size + 1 := by rw [size_alloc, size_set]
    have hb : ∀ k, k < w.heap.size → ((w.setCell ⟨a, 3, none⟩ (.map (some w.heap.size))).alloc (.map #[] 0)).heap[k]? = (w.setCell ⟨a, 3, none⟩ (.map (some w.heap.size))).heap[k]? := fun k hk => ((Below.refl _ _).alloc (Nat.le_refl _) _).block k (by rw [size_set]; exact hk)
    refine ⟨⟨_, r2, Md.nil.put ⟨_, rfl⟩ e⟩, ?_, ?_⟩
    · rw [turned_block r3 (Ne.symm hne) (by omega), hb a al, heap_setCell_same _ _ _ _ _ _ hc]; rfl
    · exact ⟨r3.grown.os, r3.grown.tape, r3.grown.output, by have := r3.grown.size; omega, fun k hk h1 => (turned_block r3 (by omega) (by omega)).trans ((hb k hk).trans (heap_setCell_other _ _ _ _ h1))⟩
  clear hk r2 r3 h0
  have q := map_eq_none w
  have q2 : (Instr.makeMap 54 none).run Try.prog w = .ok (.map (some w.heap.size)) (w.alloc (.map #[] 0)) := by kernel_rfl
  generalize (ByteArray.mk e.k.toArray) = S at *
  go_enter Try.func44, Try.ntmps44
  go_wp2
  go_end0
  exact ⟨rfl, P.out⟩
end Kc
end Go.Proofs.Ytiehafkbkbeijaa
