import Derived.Test.YtkpfpfjjkcefkaaCDV6
namespace Go.Proofs.Ytkpfpfjjkcefkaa
open Go.RowKit Go.Maps
open Go.WideElems (Fit rd rg pl rd_val rd_key)

theorem tk_of {w : World} {b n : Nat} {D : DataW Unit} (h : w.ownsMap Try.prog 3 wR b n D) : Tk D := by
  obtain ⟨es', rfl, hp, hk⟩ := h.entries kInt
  refine ⟨es', rfl, hp, fun q hq => ?_⟩
  obtain ⟨es, clock, _, F, _, e⟩ := h
  have e : es' = _ := DataW.map.inj e
  rw [e] at hq
  obtain ⟨x, hx, rfl⟩ := List.mem_map.1 (mem_sorted.1 hq)
  obtain ⟨y, hy⟩ := F.reads x hx
  obtain ⟨z, _, hz, _⟩ := Maps.keyOf_i64 Try.underlying3 (rd_key hy)
  exact ⟨z, by rw [rg, hy]; exact hz⟩
theorem tight {w : World} {b n m : Nat} {D : DataW Unit} (h : w.ownsMap Try.prog 3 wR b n D) (hm : Maps.size D ≤ m) : w.ownsMap Try.prog 3 wR b m D := by
  obtain ⟨es, clock, h1, F, h2, rfl⟩ := h
  refine ⟨es, clock, h1, F, ?_, rfl⟩
  simpa [Maps.size, length_sorted] using hm
theorem isMap_of {w : World} {b n : Nat} {D : DataW Unit} (h : w.ownsMap Try.prog 3 wR b n D) : IsMap D := by
  obtain ⟨es, clock, h1, F, h2, rfl⟩ := h
  exact ⟨_, rfl⟩
theorem mapTurned_block {w w' : World} {b k : Nat} (h : w.mapTurned w' b) (hk : k ≠ b) (hl : k < w.heap.size) : w'.heap[k]? = w.heap[k]? := h.grown.block k hl (fun e => hk (Option.some.inj e))
theorem Kp.turned {a g b : Nat} {w w' : World} (h : w.mapTurned w' b) : Kp a g b w w' := ⟨h.grown.os, h.grown.tape, h.grown.output, h.grown.size, fun _ hk _ _ h3 => mapTurned_block h h3 hk⟩
theorem Dv.turned {w w' : World} {a g b : Nat} {L : List (List UInt8)} {p p' : Nat → Option (List UInt8)} {left : Nat} {dead : Bool} (h : Dv w a g b L p left dead) (ht : w.mapTurned w' b) {D : DataW Unit} {n : Nat} (ho : w'.ownsMap Try.prog 3 wR b n D) (hp : Pn L.length p' D) : Dv w' a g b L p' left dead := by
  have ha := mapTurned_block ht h.ab h.al
  have hg := mapTurned_block ht h.gb h.gl
  refine ⟨by rw [ha]; exact h.row, rangeAt_heap h.rng hg, there_heap h.th hg, ⟨D, tight ho ?_, hp⟩, h.ag, Nat.lt_of_lt_of_le h.gl ht.grown.size, h.l4, h.l96, h.pg, h.lf⟩
  rw [hp.size (tk_of ho)]
  exact pks_len _ _
/-- m[i] = Write{i, s} -/
theorem Dv.put {w : World} {a g b : Nat} {L : List (List UInt8)} {p : Nat → Option (List UInt8)} {left : Nat} {dead : Bool} (h : Dv w a g b L p left dead) {i : Nat} (hi : i < L.length) {s : List UInt8} (hs : s.length = 256) :
    ∃ w', (Instr.mapUpdate mT (.map (some b)) (.int .i64 (i : Int)) (.agg #[.int .i64 (i : Int), .string ⟨s.toArray⟩])).run Try.prog w = .ok () w' ∧ Dv w' a g b L (upd p i s) left dead ∧ Kp a g b w w' := by
  obtain ⟨D, h1, h2⟩ := h.mp
  have hl := h.l96
  obtain ⟨w', r1, r2, r3⟩ := h1.store kInt Try.underlying82 (by simp only [maxLen]; omega) (kl_of i (by omega)) (wR_mk i s)
  exact ⟨w', r1, h.turned r3 r2 (h2.put (isMap_of h1) hi hs), Kp.turned r3⟩
/-- delete(m, i) -/
theorem Dv.drop {w : World} {a g b : Nat} {L : List (List UInt8)} {p : Nat → Option (List UInt8)} {left : Nat} {dead : Bool} (h : Dv w a g b L p left dead) {i : Nat} (hi : i < L.length) (ty : TypeId) :
    ∃ w', (Builtin.delete_ #[mT, 3] ty #[.map (some b), .int .i64 (i : Int)]).run Try.prog w = .ok (.tuple #[]) w' ∧ Dv w' a g b L (dlt p i) left dead ∧ Kp a g b w w' := by
  obtain ⟨D, h1, h2⟩ := h.mp
  have hl := h.l96
  obtain ⟨w', r1, r2, r3⟩ := h1.drop kInt Try.underlying82 (kl_of i (by omega)) ty
  exact ⟨w', r1, h.turned r3 r2 (h2.del i), Kp.turned r3⟩
theorem Dv.drew {w : World} {a g b : Nat} {L : List (List UInt8)} {p : Nat → Option (List UInt8)} {left : Nat} {dead : Bool} (h : Dv w a g b L p left dead) : Dv w.drew a g b L p left dead :=
  h.below (B := w.heap.size) (Below.refl _ _).drew (Nat.le_refl _)
theorem Kp.drew0 {a g b : Nat} {w w' : World} (h : Kp a g b w.drew w') : Kp a g b w w' := ⟨h.os, h.tape, h.output, h.size, h.block⟩
set_option maxRecDepth 100000 in
set_option maxHeartbeats 1000000 in
theorem write1 {w : World} {q0 q1 q2 a g b : Nat} {L : List (List UInt8)} {p : Nat → Option (List UInt8)} {left : Nat} {dead : Bool} (h : Dv w a g b L p left dead) {i : Nat} (hi : i < L.length) {s : List UInt8} (hs : s.length = 256)
    (h0 : w.cell? ⟨q0, 0, none⟩ = some (.int .i64 (i : Int))) (h1 : w.cell? ⟨q1, 0, none⟩ = some (.string ⟨s.toArray⟩)) (h2 : w.cell? ⟨q2, 0, none⟩ = some (.pointer (some ⟨a, 0, none⟩))) :
    Calls Try.prog 41 #[.pointer (some ⟨q0, 0, none⟩), .pointer (some ⟨q1, 0, none⟩), .pointer (some ⟨q2, 0, none⟩)] w fun e w' => e = .returned (.tuple #[]) ∧ Dv w' a g b L (upd p i s) left dead ∧ Kp a g b w w' := by
  obtain ⟨cap', k1, k2, c0, c1, c2, c3⟩ := h.c0
  obtain ⟨w', hr, hD, hK⟩ := h.drew.put hi hs
  have HD := hid hD
  have HK := hid hK
  clear h hD hK
  go_enter Try.func41, Try.ntmps41
  go_region
  go_wp2
  go_end0
  exact ⟨rfl, HD.out, HK.out.drew0⟩
end Go.Proofs.Ytkpfpfjjkcefkaa
