import Derived.Test.YtkamjpjmdibfgaaPkKP5
import Derived.Test.YtkamjpjmdibfgaaPkKP0
/- Layer 15, the program: come -/
namespace Go.Proofs.Ytkamjpjmdibfgaa
open Go.RowKit Go.Maps
namespace Kc
theorem keep_up {S T : Nat → Prop} {w w1 w2 : World} (h : Keep S w w1) (k : Keep T w1 w2) (hT : ∀ i, i < w.heap.size → T i → S i) : Keep S w w2 :=
  ⟨k.os.trans h.os, k.tape.trans h.tape, k.output.trans h.output, Nat.le_trans h.size k.size, fun i hi h1 => (k.block i (Nat.lt_of_lt_of_le hi h.size) fun h2 => h1 (hT i hi h2)).trans (h.block i hi h1)⟩
theorem tb_below {w w' : World} {g : Option Nat} {c : Nat} {L : List En} (t : Tb w g c L) (hb : Below w.heap.size w w') : Tb w' g c L := by
  rcases t with h | ⟨b, D, h0, h1, h2⟩
  · exact .inl h
  · exact .inr ⟨b, D, h0, own_below h1 hb, h2⟩
theorem tb_set {w : World} {a : Nat} {M L : List En} {g : Option Nat} {c : Nat} {x0 x3 x4 x5 x6 x7 x8 x9 : Value} (h : Li w a M x0 x3 x4 x5 x6 x7 x8 x9) (t : Tb w g c L) (n : Nat) (v : Value) : Tb (w.setCell ⟨a, n, none⟩ v) g c L := by
  rcases t with h | ⟨b, D, h0, h1, h2⟩
  · exact .inl h
  · exact .inr ⟨b, D, h0, h1.setCell (fun e => h.gne h1 a (fp_a _ _) e.symm) _, h2⟩
theorem tlay_any {w : World} {a : Nat} {g : Option Nat} {c : Nat} {L M : List En} {e : En} {x0 x4 x5 x6 x7 x8 x9 : Value} (h : Li w a M x0 (.map g) x4 x5 x6 x7 x8 x9) (t : Tb w g c L) (hk : e.k.length ≤ 9223372036854775807) (hc : c ≤ 1000000000000) :
    Calls Try.prog 46 #[.pointer (some ⟨a, 3, none⟩), .string ⟨e.k.toArray⟩, .pointer (some ⟨e.b, 0, none⟩)] w fun r w' => r = .returned (.tuple #[]) ∧ ∃ g', Li w' a M x0 (.map g') x4 x5 x6 x7 x8 x9 ∧ Tb w' g' (c + 1) (e :: L) ∧ Keep (fun k => k = a ∨ g = some k) w w' ∧ (g' = g ∨ ∃ q, g' = some q ∧ w.heap.size ≤ q) := by
  rcases t with ⟨rfl, rfl⟩ | ⟨b, D, rfl, h1, h2⟩
  · refine (tlay_none (e := e) h.row hk).mono ?_
    rintro r w' ⟨rfl, ⟨D', k1, k2⟩, k3, k4⟩
    refine ⟨rfl, some w.heap.size, ⟨k3, seg_kept (fun x hx => k4.block x.b (seg_lt h.seg x hx) (h.na x hx)) h.seg, h.nb⟩, .inr ⟨_, D', rfl, k1.mono (by omega), k2⟩, keep_mono k4 fun k hk => .inl hk, .inr ⟨_, rfl, Nat.le_refl _⟩⟩
  · refine (tlay_some (e := e) h.cs.2.2.2.1 h1 h2 hk hc).mono ?_
    rintro r w' ⟨rfl, ⟨D', k1, k2⟩, k3⟩
    refine ⟨rfl, some b, h.kept fun k hk => turned_block k3 (h.gne h1 k hk) (h.lt k hk), .inr ⟨_, D', rfl, k1, k2⟩, keep_turned k3 (.inr rfl), .inl rfl⟩
set_option maxRecDepth 100000 in
set_option maxHeartbeats 4000000 in
theorem come_any {w : World} {a : Nat} {g : Option Nat} {B c : Nat} {L : List En} {f m o : Nat} (h : Ch w a g B c L f m o) (hc : c ≤ 1000000000000) (k v : List UInt8) (p : Nat) (hf : fnd k L = none) (hp : p ≤ 65535) (ht : tot L + (k.length + v.length) ≤ B) :
    Calls Try.prog 36 #[.pointer (some ⟨a, 0, none⟩), .agg #[.string ⟨k.toArray⟩, .string ⟨v.toArray⟩, .int .i64 (p : Int)]] w fun r w' => r = .returned (.tuple #[]) ∧ ∃ b g', w.heap.size ≤ b ∧ Ch w' a g' B (c + 1) (⟨b, k, v, p⟩ :: L) f m o ∧ Keep (Fg a g L) w w' ∧ (g' = g ∨ ∃ q, g' = some q ∧ w.heap.size ≤ q) := by
  have hb := h.bu
  have hk : k.length ≤ 16777216 := by omega
  have hv : v.length ≤ 16777216 := by omega
  have iK := strClone15 ⟨k.toArray⟩ (by rw [sv_size]; omega)
  have iV := strClone15 ⟨v.toArray⟩ (by rw [sv_size]; omega)
  have H := hid h
  have HA : a < w.heap.size := h.li.lt a (fp_a _ _)
  have HF := hid hf
  have HT0 := hid ht
  clear h hf ht
  go_enter Try.func36, Try.ntmps36
  go_upto_region 1 with fail
  generalize hK : (ByteArray.mk k.toArray) = K at *
  generalize hV : (ByteArray.mk v.toArray) = V at *
  have hsz := size_alloc w (.cells #[.string K, .string V, .int .i64 (p : Int)] 68)
  have B1 : Hid (Below w.heap.size w (w.alloc (.cells #[.string K, .string V, .int .i64 (p : Int)] 68))) := (Below.refl _ _).alloc (Nat.le_refl _) _
  obtain ⟨q, hq⟩ : ∃ q, w.heap.size = q := ⟨_, rfl⟩
  have R1 := heap_alloc_at w (.cells #[.string K, .string V, .int .i64 (p : Int)] 68) q hq
  rw [hq] at hsz HA B1 ⊢
  generalize w.alloc (.cells #[.string K, .string V, .int .i64 (p : Int)] 68) = w1 at *
  have c0 : w1.cell? ⟨q, 0, none⟩ = some (.string K) := by rw [cell_of_row _ _ _ _ _ _ R1]; rfl
  have c1 : w1.cell? ⟨q, 1, none⟩ = some (.string V) := by rw [cell_of_row _ _ _ _ _ _ R1]; rfl
  have R1 := hid R1
  go_cut [] (fun w2 => Hid (Below q w w2) ∧ Hid (w2.heap[q]? = some (.cells #[.string K, .string V, .int .i64 (p : Int)] 68 (0, 0))))
  case first =>
    go_region_with (first
      | (go_at_call 45; (with_reducible refine (iK _).mono ?_); rintro r w2 ⟨rfl, b2⟩; have R2 := (b2.block q (lt_of_heap R1.out)).trans R1.out; have d0 : w2.cell? ⟨q, 0, none⟩ = some (.string K) := (by rw [cell_of_row _ _ _ _ _ _ R2]; rfl); have d1 : w2.cell? ⟨q, 1, none⟩ = some (.string V) := (by rw [cell_of_row _ _ _ _ _ _ R2]; rfl); have R2 := hid R2)
      | (go_at_call 45; (with_reducible refine (iV _).mono ?_); rintro r w3 ⟨rfl, b3⟩; have R3 := (b3.block q (lt_of_heap R2.out)).trans R2.out; have g0 : w3.cell? ⟨q, 0, none⟩ = some (.string K) := (by rw [cell_of_row _ _ _ _ _ _ R3]; rfl); have g1 : w3.cell? ⟨q, 1, none⟩ = some (.string V) := (by rw [cell_of_row _ _ _ _ _ _ R3]; rfl); have f0 : w3.frozen? ⟨q, 0, none⟩ = false := frozen_of_row _ _ _ _ _ R3; have f1 : w3.frozen? ⟨q, 1, none⟩ = false := frozen_of_row _ _ _ _ _ R3; have R3 := hid R3))
    all_goals go_wp2_with fail
    all_goals go_meet
    all_goals exact ⟨(((B1.out.drew.trans (b2.mono (by show q ≤ w1.heap.size; omega))).trans (b3.mono (by have := lt_of_heap R2.out; omega))).setCell (p := ⟨q, 0, none⟩) (Nat.le_refl q) _).setCell (p := ⟨q, 1, none⟩) (Nat.le_refl q) _, by
      show _ = _
      rw [heap_setCell_same _ _ _ _ _ _ (heap_setCell_same _ _ _ _ _ _ R3.out)]; rfl⟩
  case rest =>
    obtain ⟨B2, R2⟩ := hcut
    clear B1 R1 c0 c1 iK iV
    have c2 : wc.cell? ⟨q, 0, none⟩ = some (.string K) := by rw [cell_of_row _ _ _ _ _ _ R2.out]; rfl
    have c3 : wc.cell? ⟨q, 1, none⟩ = some (.string V) := by rw [cell_of_row _ _ _ _ _ _ R2.out]; rfl
    have c4 : wc.cell? ⟨q, 2, none⟩ = some (.int .i64 (p : Int)) := by rw [cell_of_row _ _ _ _ _ _ R2.out]; rfl
    obtain ⟨b, hbz⟩ : ∃ b, wc.heap.size = b := ⟨_, rfl⟩
    have hqb : q < b := by rw [← hbz]; exact lt_of_heap R2.out
    have L2 := H.out.li.below (by rw [hq]; exact B2.out)
    have L3 := L2.below ((Below.refl _ _).alloc (Nat.le_refl _) (.cells #[.string K, .string V, .int .i64 (p : Int), .pointer none, .pointer none] 72))
    have P3 : pl (wc.alloc (.cells #[.string K, .string V, .int .i64 (p : Int), .pointer none, .pointer none] 72)) ⟨b, k, v, p⟩ none none := by
      unfold pl
      rw [heap_alloc_at wc _ b hbz]
      simp only [hK, hV]
      rfl
    have hnb : (⟨b, k, v, p⟩ : En).b ∉ a :: L.map En.b := fun hm => by have := L2.lt b hm; omega
    have i1 := lay_any L3 P3 hnb
    have d2 : (wc.alloc (.cells #[.string K, .string V, .int .i64 (p : Int), .pointer none, .pointer none] 72)).heap[q]? = some (.cells #[.string K, .string V, .int .i64 (p : Int)] 68 (0, 0)) := (((Below.refl _ _).alloc (Nat.le_refl _) _).block q (lt_of_heap R2.out)).trans R2.out
    have B3 := hid (B2.out.alloc (o := .cells #[.string K, .string V, .int .i64 (p : Int), .pointer none, .pointer none] 72) (by omega))
    have hsb : (wc.alloc (.cells #[.string K, .string V, .int .i64 (p : Int), .pointer none, .pointer none] 72)).heap.size = b + 1 := by rw [size_alloc, hbz]
    have hq' : Hid (w.heap.size = q) := hq
    have hb' : Hid (wc.heap.size = b) := hbz
    have T3 : Hid (Tb (wc.alloc (.cells #[.string K, .string V, .int .i64 (p : Int), .pointer none, .pointer none] 72)) g c L) := by
      rcases H.out.tb with h | ⟨b0, D0, h0, h1, h2⟩
      · exact .inl h
      · exact .inr ⟨b0, D0, h0, own_below h1 (by rw [hq]; exact B3.out), h2⟩
    have L3' := hid L3
    have d2' := hid d2
    clear d2
    go_wp2_with (go_at_call 38; refine i1.mono ?_; rintro r w4 ⟨rfl, L4, K4, z4⟩)
    generalize wc.alloc (.cells #[.string K, .string V, .int .i64 (p : Int), .pointer none, .pointer none] 72) = w3 at *
    have T4 : Tb w4.drew g c L := by
      rcases T3.out with h | ⟨b0, D0, h0, h1, h2⟩
      · exact .inl h
      · refine .inr ⟨b0, D0, h0, ?_, h2⟩
        have hl := h1.lt
        have hne := L3'.out.gne h1
        have hbb : b0 ≠ b := fun c => by
          subst c
          obtain ⟨es, cl, x1, _⟩ := h1
          unfold pl at P3
          simp only at P3
          rw [x1] at P3
          cases P3
        obtain ⟨es, cl, x1, x2⟩ := h1
        refine ⟨es, cl, (K4.block b0 hl fun hf => ?_).trans x1, x2⟩
        unfold Fp at hf
        rw [List.map_cons] at hf
        rcases List.mem_cons.1 hf with h | h
        · exact hne a (fp_a _ _) h.symm
        · rcases List.mem_cons.1 h with h | h
          · exact hbb h
          · exact hne b0 (List.mem_cons_of_mem _ h) rfl
    have i2 := tlay_any (e := ⟨b, k, v, p⟩) L4.drew T4 (by show k.length ≤ _; omega) hc
    have R4 : w4.heap[q]? = some (.cells #[.string K, .string V, .int .i64 (p : Int)] 68 (0, 0)) := by
      refine (K4.block q (by omega) fun hf => ?_).trans d2'.out
      unfold Fp at hf
      rw [List.map_cons] at hf
      rcases List.mem_cons.1 hf with h | h
      · omega
      · rcases List.mem_cons.1 h with h | h
        · simp only at h
          omega
        · have := H.out.li.lt q (List.mem_cons_of_mem _ h)
          have := hq'.out
          omega
    have K4' : Hid (Keep (Fg a g L) w w4) := by
      refine keep_up (keep_below (S := Fg a g L) (by rw [hq'.out]; exact B3.out)) K4 fun k hk hf => .inl ?_
      unfold Fp at hf ⊢
      rw [List.map_cons] at hf
      rcases List.mem_cons.1 hf with h | h
      · rw [h]; exact List.mem_cons_self ..
      · rcases List.mem_cons.1 h with h | h
        · exfalso
          have := hq'.out
          simp only at h
          omega
        · exact List.mem_cons_of_mem _ h
    have hqg : Hid (∀ k, (k = a ∨ g = some k) → k ≠ q) := by
      rintro k (rfl | h) hkq
      · omega
      · rcases H.out.tb with ⟨hg, _⟩ | ⟨b0, D0, h0, h1, h2⟩
        · rw [hg] at h; cases h
        · rw [h0] at h
          have := Option.some.inj h
          have := h1.lt
          have := hq'.out
          omega
    have e0 : w4.cell? ⟨q, 0, none⟩ = some (.string K) := by rw [cell_of_row _ _ _ _ _ _ R4]; rfl
    have R4 := hid R4
    simp only [hK] at i2
    clear L3 P3 i1 L4 K4 z4 T4 L2 c2 c3 c4 hsb
    go_upto_region 4 with fail
    go_cut [] (fun w5 => Hid (∃ g', Li w5 a (⟨b, k, v, p⟩ :: L) (.int .i64 (B : Int)) (.map g') (.int .i64 (L.length : Int)) (.int .i64 (tot L : Int)) (.int .i64 (pnd L : Int)) (.int .i64 (f : Int)) (.int .i64 (m : Int)) (.int .i64 (o : Int)) ∧ Tb w5 g' (c + 1) (⟨b, k, v, p⟩ :: L) ∧ (g' = g ∨ ∃ q, g' = some q ∧ w.heap.size ≤ q)) ∧ Hid (w5.heap[q]? = some (.cells #[.string K, .string V, .int .i64 (p : Int)] 68 (0, 0))) ∧ Hid (Keep (Fg a g L) w w5))
    case first =>
      go_region_with (go_at_call 46; refine i2.mono ?_; rintro r w5 ⟨rfl, g', L5, T5, K5, G5⟩)
      all_goals go_wp2_with fail
      all_goals go_meet
      all_goals refine ⟨⟨g', L5, T5, ?_⟩, (K5.block q (lt_of_heap (w := w4) R4.out) (fun h => hqg.out q h rfl)).trans R4.out, keep_up (keep_drew K4'.out) K5 fun k hk hf => ?_⟩
      all_goals first
        | (rcases G5 with h | ⟨x, h1, h2⟩
           · exact .inl h
           · exact .inr ⟨x, h1, Nat.le_trans K4'.out.size h2⟩)
        | (rcases hf with h | h
           · exact .inl (h ▸ fp_a _ _)
           · exact .inr h)
    case rest =>
      obtain ⟨⟨g', L5, T5, G5⟩, R5, K5⟩ := hcut
      clear i2 R4 e0 K4' hqg L3' d2' T3 B3 B2 R2
      have hKs : K.size = k.length := by rw [← hK, sv_size]
      have hVs : V.size = v.length := by rw [← hV, sv_size]
      have i3 := counts_any K V (p : Int) (by omega) (by omega)
      have i4 := pinned_any K V p (by omega) (by omega)
      obtain ⟨n, hn⟩ : ∃ n, K.size + V.size = n := ⟨_, rfl⟩
      obtain ⟨nq, hnq⟩ : ∃ nq, (if p = 0 then 0 else n) = nq := ⟨_, rfl⟩
      rw [hn] at i3 i4
      rw [hnq] at i4
      have hnq' : nq ≤ n := by rw [← hnq]; split <;> omega
      have HT := hid HT0.out
      obtain ⟨n4, hn4⟩ : ∃ n, L.length = n := ⟨_, rfl⟩
      obtain ⟨n5, hn5⟩ : ∃ n, tot L = n := ⟨_, rfl⟩
      obtain ⟨n6, hn6⟩ : ∃ n, pnd L = n := ⟨_, rfl⟩
      rw [hn4, hn5, hn6] at L5
      obtain ⟨m4, hm4⟩ : ∃ m, n4 + 1 = m := ⟨_, rfl⟩
      obtain ⟨m5, hm5⟩ : ∃ m, n5 + n = m := ⟨_, rfl⟩
      obtain ⟨m6, hm6⟩ : ∃ m, n6 + nq = m := ⟨_, rfl⟩
      have hcb := H.out.cb
      have hpl := pnd_le L
      have v4 : IntKind.i64.wrap ((n4 : Int) + 1) = (m4 : Int) := by rw [IntKind.wrap_i64]; omega
      have v5 : IntKind.i64.wrap ((n5 : Int) + (n : Int)) = (m5 : Int) := by rw [IntKind.wrap_i64]; have := HT.out; omega
      have v6 : IntKind.i64.wrap ((n6 : Int) + (nq : Int)) = (m6 : Int) := by rw [IntKind.wrap_i64]; have := HT.out; omega
      have FIN : Hid (∀ w', Li w' a (⟨b, k, v, p⟩ :: L) (.int .i64 (B : Int)) (.map g') (.int .i64 (m4 : Int)) (.int .i64 (m5 : Int)) (.int .i64 (m6 : Int)) (.int .i64 (f : Int)) (.int .i64 (m : Int)) (.int .i64 (o : Int)) → Tb w' g' (c + 1) (⟨b, k, v, p⟩ :: L) → Ch w' a g' B (c + 1) (⟨b, k, v, p⟩ :: L) f m o) := by
        intro w' h1 h2
        have e1 : En.n ⟨b, k, v, p⟩ = n := by show k.length + v.length = n; omega
        have e2 : En.q ⟨b, k, v, p⟩ = nq := by show (if p = 0 then 0 else En.n ⟨b, k, v, p⟩) = nq; rw [e1]; exact hnq
        refine ⟨?_, h2, ?_, H.out.uq.cons (fnd_none HF.out).1, H.out.bu, ?_, ?_, ?_⟩
        · rw [tot_cons, pnd_cons, List.length_cons, e1, e2, hn4, hn5, hn6, hm4, Nat.add_comm n n5, hm5, Nat.add_comm nq n6, hm6]
          exact h1
        · intro b' hb' hf
          rcases h2 with ⟨x, _⟩ | ⟨b0, D0, x, y, _⟩
          · rw [x] at hb'; cases hb'
          · rw [x] at hb'
            obtain rfl := Option.some.inj hb'
            exact h1.gne y _ hf rfl
        · rw [tot_cons, e1]; have := HT.out; omega
        · rw [List.length_cons]; omega
        · intro x hx
          rcases List.mem_cons.1 hx with rfl | hx
          · exact hp
          · exact H.out.pm x hx
      have G5 := hid G5
      have T5 := hid T5
      have hne0 : q ≠ a := by omega
      clear hnq hnq' hn4 hn5 hn6 hm4 hm5 hm6 hcb hpl hKs hVs HT hn
      have c4 := L5.cs.2.2.2.2.1
      have f4 := L5.fz 4
      have L6 := L5.s4 (.int .i64 (m4 : Int))
      have R6 : (wc.setCell ⟨a, 4, none⟩ (.int .i64 (m4 : Int))).heap[q]? = some (.cells #[.string K, .string V, .int .i64 (p : Int)] 68 (0, 0)) := (heap_setCell_other _ _ _ _ hne0).trans R5.out
      have K6 : Hid (Keep (Fg a g L) w (wc.setCell ⟨a, 4, none⟩ (.int .i64 (m4 : Int)))) := keep_set K5.out (.inl (fp_a _ _)) _ _
      have T6 : Hid (Tb (wc.setCell ⟨a, 4, none⟩ (.int .i64 (m4 : Int))) g' (c + 1) (⟨b, k, v, p⟩ :: L)) := tb_set L5 T5.out _ _
      go_upto_region 6 with fail
      generalize wc.setCell ⟨a, 4, none⟩ (.int .i64 (m4 : Int)) = w6 at *
      have c5 := L6.cs.2.2.2.2.2.1
      have q0 : w6.cell? ⟨q, 0, none⟩ = some (.string K) := by rw [cell_of_row _ _ _ _ _ _ R6]; rfl
      have q1 : w6.cell? ⟨q, 1, none⟩ = some (.string V) := by rw [cell_of_row _ _ _ _ _ _ R6]; rfl
      have q2 : w6.cell? ⟨q, 2, none⟩ = some (.int .i64 (p : Int)) := by rw [cell_of_row _ _ _ _ _ _ R6]; rfl
      have L6 := hid L6
      have R6 := hid R6
      clear c4 f4 L5 R5 K5 T5
      go_cut [] (fun w7 => Hid (Li w7 a (⟨b, k, v, p⟩ :: L) (.int .i64 (B : Int)) (.map g') (.int .i64 (m4 : Int)) (.int .i64 (m5 : Int)) (.int .i64 (n6 : Int)) (.int .i64 (f : Int)) (.int .i64 (m : Int)) (.int .i64 (o : Int))) ∧ Hid (w7.heap[q]? = some (.cells #[.string K, .string V, .int .i64 (p : Int)] 68 (0, 0))) ∧ Hid (Keep (Fg a g L) w w7) ∧ Hid (Tb w7 g' (c + 1) (⟨b, k, v, p⟩ :: L)))
      case first =>
        go_region_with (go_at_call 33; refine (i3 _).mono ?_; rintro r w4 ⟨rfl, b4⟩; have L4 := (show Li _ a (⟨b, k, v, p⟩ :: L) (.int .i64 (B : Int)) (.map g') (.int .i64 (m4 : Int)) (.int .i64 (n5 : Int)) (.int .i64 (n6 : Int)) (.int .i64 (f : Int)) (.int .i64 (m : Int)) (.int .i64 (o : Int)) from L6.out.drew).below b4; have g5 := L4.fz 5; have y5 := L4.cs.2.2.2.2.2.1)
        all_goals go_wp2_with fail
        all_goals go_meet
        all_goals exact ⟨L4.s5 _, (heap_setCell_other _ _ _ _ hne0).trans ((b4.block q (lt_of_heap (w := w6) R6.out)).trans R6.out), keep_set (keep_trans (keep_drew K6.out) (keep_below b4)) (.inl (fp_a _ _)) _ _, tb_set L4 (tb_below (show Tb w6.drew g' (c + 1) (⟨b, k, v, p⟩ :: L) from T6.out) b4) _ _⟩
      case rest =>
        obtain ⟨L7, R7, K7, T7⟩ := hcut
        clear c5 q0 q1 q2 L6 R6 K6 T6
        have c6 := L7.out.cs.2.2.2.2.2.2.1
        have q0 : wc.cell? ⟨q, 0, none⟩ = some (.string K) := by rw [cell_of_row _ _ _ _ _ _ R7.out]; rfl
        have q1 : wc.cell? ⟨q, 1, none⟩ = some (.string V) := by rw [cell_of_row _ _ _ _ _ _ R7.out]; rfl
        have q2 : wc.cell? ⟨q, 2, none⟩ = some (.int .i64 (p : Int)) := by rw [cell_of_row _ _ _ _ _ _ R7.out]; rfl
        go_upto_region 7 with fail
        go_region_with (go_at_call 32; refine (i4 _).mono ?_; rintro r w4 ⟨rfl, b4⟩; have L4 := (show Li _ a (⟨b, k, v, p⟩ :: L) (.int .i64 (B : Int)) (.map g') (.int .i64 (m4 : Int)) (.int .i64 (m5 : Int)) (.int .i64 (n6 : Int)) (.int .i64 (f : Int)) (.int .i64 (m : Int)) (.int .i64 (o : Int)) from L7.out.drew).below b4; have g5 := L4.fz 6; have y5 := L4.cs.2.2.2.2.2.2.1)
        all_goals go_wp2_with fail
        all_goals go_end0
        all_goals exact ⟨rfl, b, g', by have := hq'.out; omega, FIN.out _ (L4.s6 _) (tb_set L4 (tb_below (show Tb wc.drew g' (c + 1) (⟨b, k, v, p⟩ :: L) from T7.out) b4) _ _), keep_set (keep_trans (keep_drew K7.out) (keep_below b4)) (.inl (fp_a _ _)) _ _, G5.out⟩
end Kc
end Go.Proofs.Ytkamjpjmdibfgaa
