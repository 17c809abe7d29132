import Derived.Test.YtkamjpjmdibfgaaPkKS2
import Derived.Test.YtkamjpjmdibfgaaPkKR6
/- Layer 15, the law: grows -/
namespace Go.Proofs.Ytkamjpjmdibfgaa
open Go.RowKit Go.Maps
namespace Kc
theorem gr_first {w : World} {l mv : Value} {n : Nat} (h : OwnM 1 w l n (List.replicate n mv)) (hc : l.oneCell' = true) : Gr w l mv n (w.alloc (.cells #[l] 59)) l (.slice (some ⟨w.heap.size, 0, none⟩) 1 1) [l] := by
  have b : Below w.heap.size w (w.alloc (.cells #[l] 59)) := (Below.refl _ _).alloc (Nat.le_refl _) _
  have r : (w.alloc (.cells #[l] 59)).heap[w.heap.size]? = some (.cells #[l] 59 (0, 0)) := heap_alloc_new w _
  have sz : (w.alloc (.cells #[l] 59)).heap.size = w.heap.size + 1 := size_alloc w _
  have ol := h.below b
  refine ⟨keep_below b, ol, ?_, fun k hk => .inl hk, fun k hk => ?_, fun k hk hl => ?_, fun x hx => ?_⟩
  · refine .inr ⟨w.heap.size, 1, rfl, Nat.le_refl _, by rw [maxLen]; omega, rfl, fun j u hj => ?_, ?_, by omega⟩
    · rw [cell_of_row _ _ _ _ _ _ r, Nat.zero_add]
      simpa using hj
    · exact there_of_row r 0 _ (by simp)
  · have : some w.heap.size = some k := hk
    injection this with this
    omega
  · have : some w.heap.size = some k := hk
    injection this with this
    have := h.lt k hl
    omega
  · obtain rfl := List.mem_singleton.1 hx
    refine ⟨ownM_mkV ol, fun k hk => ⟨.inl hk, fun e => ?_, by have := h.lt k hk; omega⟩, fun k a m c e _ _ => ?_⟩
    · have : some w.heap.size = some k := e
      injection this with this
      have := h.lt k hk
      omega
    · obtain ⟨a', c', e', _, _⟩ := h.shape
      rw [e'] at e
      injection e with _ e _
      omega
set_option maxRecDepth 100000 in
set_option maxHeartbeats 2000000 in
theorem grows_any {w : World} {l : Value} {n : Nat} {M : ByteArray} (h : OwnM 1 w l n (List.replicate n (.string M))) (hl : n ≤ 1000000) :
    Calls Try.prog 28 #[l, .string M] w fun r w' => ∃ va all l' n', r = .returned va ∧ all.length = 41 ∧ Gr w l (.string M) n' w' l' va all := by
  obtain ⟨xa, ca, hv, _, _⟩ := h.shape
  subst hv
  have G0 := hid (gr_first h rfl)
  clear h
  go_enter Try.func28, Try.ntmps28
  go_wp2
  go_loopw [0, 5, 6] (fun lv va i w' => ∃ j : Nat, j ≤ 40 ∧ i = .int .i64 (j : Int) ∧ Hid (∃ all, all.length = j + 1 ∧ Gr w (.slice xa n ca) (.string M) (n + j) w' lv va all)) (fun _ _ i _ => 40 - (intOf i).toNat)
  case atStart => exact ⟨0, Nat.zero_le _, rfl, [_], rfl, G0.out⟩
  case round =>
    obtain ⟨j, hj, rfl, G⟩ := hrel
    obtain ⟨all, ha, G1⟩ := G.out
    have HA := hid ha
    by_cases hjn : j < 40
    · obtain ⟨l2, w2, hap2, O2, g2⟩ := append_oneM 59 9 (.string ⟨#[]⟩) 16 (by decide) Try.underlying59 infoS rfl wr u0 (n + j) _ [.string M] rfl (fun u hu => by rw [List.mem_singleton.1 hu]; rfl) G1.ol (by omega)
      rw [← List.replicate_succ'] at O2
      have G2 := G1.growL g2 O2
      obtain ⟨x2, c2, hl2, _, _⟩ := O2.shape
      subst hl2
      obtain ⟨v3, w3, hap3, O3, g3⟩ := append_oneM 63 59 (.slice none 0 0) 24 (by decide) Try.underlying63 infoLS rfl w2 u5 all.length all [.slice x2 (n + j + 1) c2] rfl (fun u hu => by rw [List.mem_singleton.1 hu]; rfl) G2.oa (by omega)
      have G3 : Hid (∃ all, all.length = j + 1 + 1 ∧ Gr w (.slice xa n ca) (.string M) (n + (j + 1)) w3 (.slice x2 (n + j + 1) c2) v3 all) := ⟨_, by rw [List.length_append, ha]; rfl, G2.growA g3 (by rw [List.length_append]; exact O3)⟩
      have y1 : (j : Int) < 40 := by omega
      have hjn' := hid hjn
      clear G1 G2 O2 O3 g2 g3 G ha HA
      go_wp2_with (first
        | ((with_reducible show wpList _ _ _ (Oper.mk _ (Op.call { callee := Callee.builtin Builtin.append, args := _, argTypes := #[59, 59] }) _ _ _ _ :: _) _ _); go_must (refine Lib.wpList_append_run _ rfl _ _ 59 59 rfl _ _ rfl rfl _ _ hap2 ?_))
        | ((with_reducible show wpList _ _ _ (Oper.mk _ (Op.call { callee := Callee.builtin Builtin.append, args := _, argTypes := #[63, 63] }) _ _ _ _ :: _) _ _); go_must (refine Lib.wpList_append_run _ rfl _ _ 63 63 rfl _ _ rfl rfl _ _ hap3 ?_)))
      exact ⟨⟨j + 1, hjn'.out, by go_num, G3⟩, by have := hjn'.out; simp [RowKit.intOf]; omega⟩
    · obtain rfl : j = 40 := by omega
      have y1 : ¬ ((40 : Nat) : Int) < 40 := by omega
      clear G1
      go_wp2
      go_ret
      obtain ⟨all, ha, G1⟩ := G.out
      first | exact ⟨_, rfl, all, ha, _, _, G1⟩ | exact ⟨_, rfl, all, ⟨_, _, ha, G1⟩⟩ | exact ⟨_, rfl, all, ha, _, ⟨_, G1⟩⟩ | exact ⟨_, rfl, ⟨all, ⟨ha, ⟨_, G1⟩⟩⟩⟩
end Kc
end Go.Proofs.Ytkamjpjmdibfgaa

/- Layer 15, the document's cache: Keys -/
namespace Go.Proofs.Ytkamjpjmdibfgaa
open Go.RowKit Go.Maps
namespace Kc
set_option maxRecDepth 100000 in
set_option maxHeartbeats 4000000 in
theorem rkeys_any {w : World} {a B : Nat} {v : Value} {L : List En} {f m o : Nat} (h : Rf w a B v L f m o) (hl : L.length ≤ 1000000) :
    Calls Try.prog 24 #[.pointer (some ⟨a, 0, none⟩)] w fun r w' => ∃ v', r = .returned v' ∧ Own w' w.heap.size v' (svs (keys L)) ∧ Below w.heap.size w w' := by
  have c1 := h.cs.2.1
  have HO := hid h.own
  obtain ⟨xa, cap, hv, hcp, hcm⟩ := h.own.shape
  subst hv
  obtain ⟨n, hn⟩ : ∃ n, L.length = n := ⟨_, rfl⟩
  have al : a < w.heap.size := lt_of_heap h.row
  rw [hn] at c1 hl
  have HN := hid hn
  clear h hn hcp hcm
  obtain ⟨q, hq⟩ : ∃ q, w.heap.size = q := ⟨_, rfl⟩
  have HQ := hid hq
  rw [hq] at al ⊢
  clear hq
  go_enter Try.func24, Try.ntmps24
  go_wp2
  go_loopw [3, 4] (fun u i w' => ∃ j : Nat, j ≤ n ∧ i = .int .i64 (j : Int) ∧ Hid (Own w' q u (svs (keys (L.take j)))) ∧ Hid (Below q w w')) (fun _ i _ => n - (intOf i).toNat)
  case atStart => exact ⟨0, Nat.zero_le _, rfl, .inl ⟨rfl, rfl⟩, Below.refl _ _⟩
  case round =>
    obtain ⟨j, hj, rfl, O, Bw⟩ := hrel
    have c1' : wr.cell? ⟨a, 1, none⟩ = some (.slice xa n cap) := (Bw.out.cell (p := ⟨a, 1, none⟩) al).trans c1
    by_cases hjn : j < n
    · have hjL : j < L.length := by rw [HN.out]; exact hjn
      obtain ⟨e, he⟩ : ∃ e, L[j] = e := ⟨_, rfl⟩
      have hsp : L = L.take j ++ e :: L.drop (j + 1) := by rw [← he, ← List.drop_eq_getElem_cons hjL, List.take_append_drop]
      have hjt : (L.take j).length = j := by rw [List.length_take]; omega
      have HO' : OwnM 3 w (.slice xa L.length cap) (L.take j ++ e :: L.drop (j + 1)).length (thc (L.take j ++ e :: L.drop (j + 1))) := by rw [← hsp]; exact HO.out
      obtain ⟨g, cap', hg, k0, k1, k2, hgl⟩ := ownM_e HO'
      rw [hjt] at k0
      injection hg with hg _ _
      subst hg
      have hgq : g < q := by rw [← HQ.out]; exact hgl
      have k0 := (Bw.out.cell (p := ⟨g, j * 3, none⟩) hgq).trans k0
      have y1 : (j : Int) < (n : Int) := by omega
      have y3 : (0 : Int) ≤ (j : Int) := by omega
      have hjn' := hid hjn
      have hqw : q ≤ wr.heap.size := by rw [← HQ.out]; exact Bw.out.size
      obtain ⟨v', w2, hap, O2, B2⟩ := append_text wr q u3 (keys (L.take j)) e.k #[.string ⟨e.k.toArray⟩] rfl O.out (by unfold keys; rw [List.length_map, hjt]; omega) hqw
      have O' : Hid (Own w2 q v' (svs (keys (L.take (j + 1))))) := by
        show Own _ _ _ _
        rw [List.take_succ_eq_append_getElem hjL, he, show keys (L.take j ++ [e]) = keys (L.take j) ++ [e.k] by simp [keys]]
        exact O2
      have B2 := hid (Bw.out.trans B2)
      clear hsp hjt HO' he hjL k1 k2 O2 O Bw
      generalize (ByteArray.mk e.k.toArray) = E1 at *
      go_wp2_with (at_builtin; go_must (refine Lib.wpList_append_run _ rfl _ _ 59 59 rfl _ _ rfl rfl _ _ hap ?_))
      exact ⟨⟨j + 1, hjn'.out, by go_num, O', B2⟩, by have := hjn'.out; simp [RowKit.intOf]; omega⟩
    · obtain rfl : j = n := by omega
      have y1 : ¬ (j : Int) < (j : Int) := by omega
      go_wp2
      go_ret
      have hO := O.out
      rw [List.take_of_length_le (by rw [HN.out]; omega)] at hO
      exact ⟨_, rfl, hO, Bw.out⟩
end Kc
end Go.Proofs.Ytkamjpjmdibfgaa
