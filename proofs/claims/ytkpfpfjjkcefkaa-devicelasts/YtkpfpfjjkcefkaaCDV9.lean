import Derived.Test.YtkpfpfjjkcefkaaCDV8
import Derived.Test.YtkpfpfjjkcefkaaCDVG
namespace Go.Proofs.Ytkpfpfjjkcefkaa
open Go.RowKit Go.Maps

/-- writes, as cells -/
def wcs (l : List (Nat × List UInt8)) : List Value := l.flatMap fun x => [.int .i64 (x.1 : Int), .string ⟨x.2.toArray⟩]
theorem wcs_append (l m : List (Nat × List UInt8)) : wcs (l ++ m) = wcs l ++ wcs m := by simp [wcs]
abbrev OwnW (w : World) (v : Value) (l : List (Nat × List UInt8)) : Prop := OwnM 2 w v l.length (wcs l)
/-- what is pending -/
def pls (n : Nat) (p : Nat → Option (List UInt8)) : List (Nat × List UInt8) := (pks n p).map fun i => (i, (p i).getD [])
theorem pls_len (n : Nat) (p : Nat → Option (List UInt8)) : (pls n p).length = (pks n p).length := by simp [pls]
theorem infoW : (Try.prog.info? 52).map (fun i => (i.zero, i.size, i.bytes)) = some (some (.agg #[.int .i64 0, .string ⟨#[]⟩]), 2, 24) := by kernel_rfl
theorem make_w (w : World) (c : Nat) (hc : c ≤ 4096) :
    ∃ w', (Instr.makeSlice 38 (.int .i64 0) (.int .i64 (c : Int))).run Try.prog w = .ok (.slice (some ⟨w.heap.size, 0, none⟩) 0 c) w' ∧ OwnW w' (.slice (some ⟨w.heap.size, 0, none⟩) 0 c) [] ∧ Below w.heap.size w w' ∧ w'.heap.size = w.heap.size + 1 := by
  obtain ⟨i0, hi, hz0, hz1, hz2⟩ := info_parts infoW
  have h := run_make (P := Try.prog) w 38 52 i0 _ Try.underlying38 hi hz0 .i64 .i64 0 (c : Int) (by omega) (by omega) (by rw [hz2]; omega) (by omega)
  rw [Int.toNat_natCast, hz1] at h
  refine ⟨_, h, .inr ⟨w.heap.size, c, rfl, Nat.zero_le _, by rw [maxLen]; omega, rfl, fun j v hj => by simp [wcs] at hj, ?_, by rw [size_alloc]; omega⟩, (Below.refl _ _).alloc (Nat.le_refl _) _, size_alloc _ _⟩
  exact there_of_row (heap_alloc_new w _) 0 _ (by rw [size_madeCells]; omega)
theorem append_w (w : World) (v : Value) (l : List (Nat × List UInt8)) (i : Nat) (s : List UInt8) (hown : OwnW w v l) (hl : l.length ≤ 2000000) :
    ∃ v' w', (Builtin.append_ #[38, 38] 38 #[v, .slice (some ⟨w.heap.size, 0, none⟩) 1 1]).run Try.prog (w.alloc (.cells #[.int .i64 (i : Int), .string ⟨s.toArray⟩] 52)) = .ok v' w' ∧ OwnW w' v' (l ++ [(i, s)]) ∧ Grow w w' v v' := by
  obtain ⟨v', w', h1, h2, h3⟩ := append_oneM (m := 2) 38 52 _ 24 (by omega) Try.underlying38 infoW rfl w v l.length (wcs l) [.int .i64 (i : Int), .string ⟨s.toArray⟩] rfl (fun u hu => by
    simp only [List.mem_cons, List.not_mem_nil, or_false] at hu
    rcases hu with rfl | rfl <;> rfl) hown hl
  refine ⟨v', w', h1, ?_, h3⟩
  rw [OwnW, wcs_append, List.length_append]
  exact h2
/-- the list while it grows -/
structure Lp (gM : Nat) (wS w' : World) (lv : Value) : Prop where
  but : But gM wS w'
  loc : lv.ownBlock = some gM ∨ ∀ k, lv.ownBlock = some k → wS.heap.size ≤ k
theorem Lp.grow {gM : Nat} {wS w w' : World} {v v' : Value} (h : Lp gM wS w v) (hg : Grow w w' v v') : Lp gM wS w' v' where
  but := ⟨hg.os.trans h.but.os, hg.tape.trans h.but.tape, hg.output.trans h.but.output, Nat.le_trans h.but.size hg.size, fun k hk hne => (hg.old k (Nat.lt_of_lt_of_le hk h.but.size) (by
    rcases h.loc with e | e
    · rw [e]; exact fun e => hne (Option.some.inj e).symm
    · intro e'; have := e k e'; omega)).trans (h.but.block k hk hne)⟩
  loc := by
    rcases hg.alt with e | ⟨e, _⟩
    · rw [e]; exact h.loc
    · exact .inr fun k hk => Nat.le_trans h.but.size (e k hk)
theorem take_snoc {α : Type} (l : List α) {k : Nat} (hk : k < l.length) : l.take (k + 1) = l.take k ++ [l[k]] := List.take_succ_eq_append_getElem hk
set_option maxRecDepth 100000 in
set_option maxHeartbeats 2000000 in
theorem dPending {w : World} {a g b : Nat} {L : List (List UInt8)} {p : Nat → Option (List UInt8)} {left : Nat} {dead : Bool} (h : Dv w a g b L p left dead) :
    Calls Try.prog 17 #[.pointer (some ⟨a, 0, none⟩)] w fun r w' => ∃ v, r = .returned v ∧ OwnW w' v (pls L.length p) ∧ (∀ k, v.ownBlock = some k → w.heap.size ≤ k) ∧ Below w.heap.size w w' := by
  obtain ⟨cap', k1, k2, c0, c1, c2, c3⟩ := h.c0
  obtain ⟨D, ho, hP⟩ := h.mp
  have hl := h.l96
  have hsz : Maps.size D = (pks L.length p).length := hP.size (tk_of ho)
  have hsl := pks_len L.length p
  obtain ⟨n, hn⟩ : ∃ n, (pks L.length p).length = n := ⟨_, rfl⟩
  have hlen : ∀ ty, (Builtin.len_ #[mT] ty #[.map (some b)]).run Try.prog w = .ok (.int .i64 (n : Int)) w := fun ty => by
    have := ho.len Try.underlying82 ty
    rwa [hsz, hn] at this
  obtain ⟨w1, hmk, O1, b1, z1⟩ := make_w w n (by omega)
  have h1 := h.below b1 (Nat.le_refl _)
  have ho1 : w1.ownsMap Try.prog 3 wR b L.length D := by
    obtain ⟨es, cl, m1, m2⟩ := ho
    exact ⟨es, cl, (b1.block b (lt_of_heap m1)).trans m1, m2⟩
  have i1 := Try.maps_Keys (some b) w1
  have i2 := Try.slices_Sorted_keys b L.length D wR w1 ho1 (by rw [hsz, maxLen]; omega) (by rw [hsz]; omega)
  have b2 := (Below.refl w1.heap.size w1).alloc (Nat.le_refl _) (.cells #[.map (some b)] mT)
  obtain ⟨w2, hw2⟩ : ∃ w2, w1.alloc (.cells #[.map (some b)] mT) = w2 := ⟨_, rfl⟩
  rw [hw2] at i1 i2 b2
  have hal : a < w.heap.size := h.al
  have hgl : g < w.heap.size := h.gl
  have hbl : b < w.heap.size := h.bl
  have B1 := hid b1
  have B2 := hid b2
  have H1 := hid h1
  have OO := hid O1
  have HP := hid hP
  have TK := hid (tk_of ho)
  have hln := hid hlen
  have Z1 := hid z1
  clear h ho ho1 hP O1 b1 b2 h1 hw2 z1
  go_enter Try.func17, Try.ntmps17
  have hlen := hln.out
  go_wp2_with (first
    | (go_at_call 34; refine (orNone_some _ _).mono ?_; rintro r w9 ⟨rfl, hw9⟩; replace hw9 := hw9.symm; subst hw9)
    | (go_at_call 36; refine i1.mono ?_; rintro r w9 ⟨rfl, hw9⟩; replace hw9 := hw9.symm; subst hw9)
    | (go_at_call 35; fail))
  refine i2.mono ?_
  rintro r w3 ⟨v, ss, rfl, hS, hrow, hnil, hb3⟩
  have hO := Own.of_row hrow
  rw [HP.out.sort TK.out hS] at hO
  have hvn : ((pks L.length p).map fun i : Nat => (i : Int)).map encZ = (pks L.length p).map fun i : Nat => Value.int .i64 (i : Int) := by simp
  rw [hvn] at hO
  obtain ⟨av, cv, rfl⟩ := hO.shape
  have HN := hid hn
  rw [List.length_map, hn] at hO ⊢
  have z1 := Z1.out
  have b1 := B1.out
  have b2 := B2.out
  have hz2 : w1.heap.size ≤ w2.heap.size := b2.size
  have hz3 : w2.heap.size ≤ w3.heap.size := hb3.size
  have b12 : Below w1.heap.size w1 w3 := b2.trans (hb3.mono hz2)
  have hD3 := H1.out.below b12 (Nat.le_refl _)
  have O3 := OO.out.below b12
  have B3 := hid (b1.trans (b12.mono b1.size))
  have L3 : Lp w.heap.size w3 w3 (.slice (some ⟨w.heap.size, 0, none⟩) 0 n) := ⟨But.refl _ _, .inl rfl⟩
  have HO := hid hO
  have HD := hid hD3
  have O3 := hid O3
  have L3 := hid L3
  clear i1 i2 hrow hnil hb3 hS hO hD3 OO H1 B1 B2 hmk hvn b1 b2 b12 hln hlen z1
  go_wp2
  go_loopw [4, 19] (fun lv i w' => ∃ k : Nat, k ≤ n ∧ i = .int .i64 (k : Int) ∧ Hid (OwnW w' lv ((pls L.length p).take k)) ∧ Hid (Lp w.heap.size w3 w' lv)) (fun _ i _ => n - (RowKit.intOf i).toNat)
  case atStart => exact ⟨0, by omega, rfl, O3, L3⟩
  case round =>
    clear O3 L3
    obtain ⟨k, hk, rfl, hW, hLp⟩ := hrel
    by_cases hkn : k < n
    · have hn := HN.out
      have z1 := Z1.out
      have c0 : (k : Int) < (n : Int) := by omega
      have kp : (0 : Int) ≤ (k : Int) := by omega
      have hOw : Own wr w2.heap.size (.slice av n cv) ((pks L.length p).map fun i : Nat => Value.int .i64 (i : Int)) := HO.out.but hLp.out.but (fun e => by have := HO.out.ge _ e; omega)
      rcases hOw with ⟨_, e⟩ | ⟨gv, cv', e, _, _, hcm, hrg, _, _⟩
      · have := congrArg List.length e; rw [List.length_map, hn, List.length_nil] at this; omega
      injection e with e1 e2 e3
      subst e1
      have hkl : k < (pks L.length p).length := by omega
      obtain ⟨i, hi⟩ : ∃ i, (pks L.length p)[k] = i := ⟨_, rfl⟩
      have hci : wr.cell? ⟨gv, k, none⟩ = some (.int .i64 (i : Int)) := by
        have := hrg k (.int .i64 (i : Int)) (by rw [List.getElem?_map, List.getElem?_eq_getElem hkl, hi]; rfl)
        rwa [Nat.zero_add] at this
      have hmem := pks_mem.1 (hi ▸ List.getElem_mem hkl)
      obtain ⟨s, hs⟩ := Option.isSome_iff_exists.1 hmem.2
      have hbt := hLp.out.but
      have hz3' : w.heap.size < w3.heap.size := by omega
      have hDr := HD.out.kept hbt.size (hbt.block a (by omega) (by omega)) (hbt.block g (by omega) (by omega)) (hbt.block b (by omega) (by omega))
      obtain ⟨j, s2, hjs, _, hlk⟩ := hDr.look hmem.1
      obtain ⟨rfl, rfl⟩ := hjs s hs
      have hpk : (pls L.length p).take (k + 1) = (pls L.length p).take k ++ [(j, s2)] := by
        have hkl' : k < (pls L.length p).length := by rw [pls_len]; exact hkl
        rw [take_snoc _ hkl']
        congr 2
        simp [pls, hi, hs]
      have htk : ((pls L.length p).take k).length = k := by rw [List.length_take, pls_len]; omega
      obtain ⟨v', w5, hap, O5, G5⟩ := append_w wr _ ((pls L.length p).take k) j s2 hW.out (by omega)
      rw [← hpk] at O5
      have L5 := hid (hLp.out.grow G5)
      have O5 := hid O5
      have hcm' : cv ≤ 9223372036854775807 := by simp only [maxLen] at hcm; omega
      clear hW hLp hrg hDr hjs G5 hbt hcm hi hs hmem hpk hn z1 e2 e3 htk hkl
      go_wp2_with (at_builtin; go_must (refine Lib.wpList_append_run _ rfl _ _ 38 38 rfl _ _ rfl rfl _ _ hap ?_))
      exact ⟨⟨k + 1, by omega, by go_num, O5, L5⟩, by simp [RowKit.intOf]; omega⟩
    · obtain rfl : k = n := by omega
      have c0 : ¬ (k : Int) < (k : Int) := by omega
      go_wp2
      go_ret
      have hW := hW.out
      rw [List.take_of_length_le (by rw [pls_len, HN.out]; omega)] at hW
      have hLp := hLp.out
      have z1 := Z1.out
      refine ⟨_, rfl, hW, fun j hj => ?_, B3.out.trans (hLp.but.below (Nat.le_refl _) (by omega))⟩
      rcases hLp.loc with e | e
      · have hj := e.symm.trans hj; injection hj with hj; omega
      · have := e j hj; omega
end Go.Proofs.Ytkpfpfjjkcefkaa
