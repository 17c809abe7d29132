import Derived.Test.YtdbbemcddhgbcaaGreatDoorPpNR7
/- Layer 22, the law: still (written by genNR9.py) -/
namespace Go.Proofs.YtdbbemcddhgbcaaGreatDoor
open Go.RowKit Go.Shelf
namespace Nt
theorem ncs_len (E : List En) : (ncs E).length = E.length * 4 := by
  unfold ncs
  induction E with
  | nil => rfl
  | cons q l ih => rw [List.flatMap_cons, List.length_append, ih]; simp; omega
theorem wcs_len (E : List En) : (wcs E).length = E.length * 4 := by
  unfold wcs
  induction E with
  | nil => rfl
  | cons q l ih => rw [List.flatMap_cons, List.length_append, ih]; simp; omega
theorem fl4_get {f : En → List Value} (hf : ∀ e, (f e).length = 4) : ∀ {E : List En} {i : Nat} {e : En}, E[i]? = some e → ∀ j, j < 4 → (E.flatMap f)[i * 4 + j]? = (f e)[j]?
  | q :: l, 0, e, h, j, hj => by
    obtain rfl := Option.some.inj h
    rw [List.flatMap_cons, Nat.zero_mul, Nat.zero_add, List.getElem?_append_left (by rw [hf]; exact hj)]
  | q :: l, i + 1, e, h, j, hj => by
    rw [List.flatMap_cons, List.getElem?_append_right (by rw [hf]; omega), hf, show (i + 1) * 4 + j - 4 = i * 4 + j by omega]
    exact fl4_get hf (E := l) h j hj
theorem row4 {ρ : Nat → Nat} {w : World} {r : Nat} {v : Value} {E : List En} {f : En → List Value} (hf : ∀ e, (f e).length = 4) (h : Rl ρ r 4 w v E.length (E.flatMap f)) {i : Nat} {e : En} (he : E[i]? = some e) : ∃ g c, v = .slice (some ⟨g, 0, none⟩) E.length c ∧ ∀ j u, j < 4 → (f e)[j]? = some u → w.cell? ⟨g, i * 4 + j, none⟩ = some u := by
  have hi := (List.getElem?_eq_some_iff.1 he).1
  rcases h.own with ⟨_, h0, _⟩ | ⟨g, c, e1, _, _, _, h5, _⟩
  · omega
  · refine ⟨g, c, e1, fun j u hj hu => ?_⟩
    have := h5 (i * 4 + j) u (by rw [fl4_get hf he j hj]; exact hu)
    rwa [Nat.zero_add] at this
theorem Sv.rn {w0 : World} {ρ : Nat → Nat} {w : World} {gb m : Nat} {E : List En} {nV wV lV : Value} {G : List Ls} (h : Sv w0 ρ w gb E nV wV lV m G) {i : Nat} {e : En} (he : E[i]? = some e) : ∃ g c, nV = .slice (some ⟨g, 0, none⟩) E.length c ∧ w.cell? ⟨g, i * 4, none⟩ = some (.string e.1.O) ∧ w.cell? ⟨g, i * 4 + 1, none⟩ = some (.int .i64 e.1.z) ∧ w.cell? ⟨g, i * 4 + 2, none⟩ = some (.string e.1.R) ∧ w.cell? ⟨g, i * 4 + 3, none⟩ = some e.2.1 := by
  obtain ⟨g, c, e1, hh⟩ := row4 (fun _ => rfl) h.ln he
  exact ⟨g, c, e1, hh 0 _ (by decide) rfl, hh 1 _ (by decide) rfl, hh 2 _ (by decide) rfl, hh 3 _ (by decide) rfl⟩
theorem Sv.rw_ {w0 : World} {ρ : Nat → Nat} {w : World} {gb m : Nat} {E : List En} {nV wV lV : Value} {G : List Ls} (h : Sv w0 ρ w gb E nV wV lV m G) {i : Nat} {e : En} (he : E[i]? = some e) : ∃ g c, wV = .slice (some ⟨g, 0, none⟩) E.length c ∧ w.cell? ⟨g, i * 4, none⟩ = some (.string e.1.O) ∧ w.cell? ⟨g, i * 4 + 1, none⟩ = some (.int .i64 e.1.z) ∧ w.cell? ⟨g, i * 4 + 2, none⟩ = some (.string e.1.R) ∧ w.cell? ⟨g, i * 4 + 3, none⟩ = some e.2.2 := by
  obtain ⟨g, c, e1, hh⟩ := row4 (fun _ => rfl) h.lw he
  exact ⟨g, c, e1, hh 0 _ (by decide) rfl, hh 1 _ (by decide) rfl, hh 2 _ (by decide) rfl, hh 3 _ (by decide) rfl⟩
theorem Sv.rl {w0 : World} {ρ : Nat → Nat} {w : World} {gb m : Nat} {E : List En} {nV wV lV : Value} {G : List Ls} (h : Sv w0 ρ w gb E nV wV lV m G) {i : Nat} {x : Ls} (hx : G[i]? = some x) : ∃ g c, lV = .slice (some ⟨g, 0, none⟩) G.length c ∧ w.cell? ⟨g, i, none⟩ = some (.slice x.1 x.2.1 x.2.2) := by
  have hi := (List.getElem?_eq_some_iff.1 hx).1
  rcases h.ll.own with ⟨_, h0, _⟩ | ⟨g, c, e1, _, _, _, h5, _⟩
  · omega
  · refine ⟨g, c, e1, ?_⟩
    have := h5 i _ (by unfold gvs; rw [List.getElem?_map, hx]; rfl)
    rwa [Nat.zero_add] at this
theorem Mk.cells {ρ : Nat → Nat} {w : World} {r n : Nat} {X : ByteArray} {a : Option Addr} (h : Mk ρ w r X a n) {k : Nat} (hk : k < n) : ∃ g, a = some ⟨g, 0, none⟩ ∧ g < w.heap.size ∧ w.cell? ⟨g, k * 2, none⟩ = some (.string X) ∧ w.cell? ⟨g, k * 2 + 1, none⟩ = some (.string ⟨#[]⟩) := by
  obtain ⟨p, e, h1, h2, h3⟩ := h.at_ k _ (rep_at hk)
  obtain ⟨r1, r2, -, -⟩ := h.role p e
  obtain ⟨b, o, sp⟩ := p
  cases r1
  cases r2
  rw [Addr.add_mid, Nat.zero_add] at h2 h3
  exact ⟨b, e, h1, h2, h3⟩
theorem mark_conv (w : World) (m : Nat) (hm : m ≤ 200) : (convert 43 9 (.slice (some ⟨w.heap.size, 0, none⟩) 2 2)).run Tryz.prog (w.alloc (.cells #[.int .u8 (m : Int), .int .u8 0] 5)) = .ok (.string ⟨#[UInt8.ofNat m, 0]⟩) (w.alloc (.cells #[.int .u8 (m : Int), .int .u8 0] 5)) := by
  refine run_convert_bytes_back _ 43 9 5 ⟨w.heap.size, 0, none⟩ 2 [UInt8.ofNat m, 0] Tryz.underlying43 Tryz.underlying5 Tryz.underlying9 fun j hj => ?_
  rw [Addr.add_mid, cell_of_row _ _ _ _ _ _ (heap_alloc_new w _), Nat.zero_add]
  have hu : (UInt8.ofNat m).toNat = m := by rw [UInt8.toNat_ofNat']; exact Nat.mod_eq_of_lt (by omega)
  match j, hj with
  | 0, _ => show some (Value.int .u8 (m : Int)) = some (.int .u8 ((UInt8.ofNat m).toNat : Int)); rw [hu]
  | 1, _ => rfl
theorem mark_cat (m : Nat) : (⟨#[109, 97, 114, 107]⟩ : ByteArray) ++ ⟨#[UInt8.ofNat m, 0]⟩ = mkT m := by
  apply Go.WideShapes.bytes_inj
  rw [ByteArray.data_append]
  rfl
set_option linter.unusedSimpArgs false in
set_option maxRecDepth 100000 in
set_option maxHeartbeats 8000000 in
theorem still22_any {w0 : World} {ρ : Nat → Nat} {w : World} {gb : Nat} {E : List En} {nV wV : Value} (h : Bk ρ w gb E nV wV (.slice none 0 0)) (bb : Below w0.heap.size w0 w) (lo : ∀ k, k < w0.heap.size → ρ k = 1000000) (hE : E.length ≤ 90) (n0 : Nat) (hn0 : E.length = n0) (hp : 0 < n0) :
    Calls Tryz.prog 12 #[.pointer (some ⟨gb, 0, none⟩)] w fun e w' => e = .returned (.bool true) ∧ Below w0.heap.size w0 w' := by
  have HS0 := hid (h.sv bb lo)
  have HE := hid hE
  have HN := hid hn0
  obtain ⟨e0, he0⟩ : ∃ e, E[0]? = some e := ⟨_, List.getElem?_eq_getElem (by omega)⟩
  obtain ⟨gN, cN, hnV, -⟩ := (h.sv bb lo).rn he0
  obtain ⟨gW, cW, hwV, -⟩ := (h.sv bb lo).rw_ he0
  rw [hn0] at hnV hwV
  subst hnV hwV
  have hn90 : (n0 : Int) ≤ 90 := by omega
  clear h hE hn0 he0 e0 bb lo
  go_enter Tryz.func12, Tryz.ntmps12
  go_wp2
  go_loopw [3] (fun i wr => ∃ (m : Nat) (ρ' : Nat → Nat) (lV : Value) (G : List Ls), ((i = .int .i64 (-1) ∧ m = 0) ∨ i = .int .i64 (m : Int)) ∧ m ≤ n0 ∧ Hid (G.length = 40 * m) ∧ Hid (Sv w0 ρ' wr gb E (.slice (some ⟨gN, 0, none⟩) n0 cN) (.slice (some ⟨gW, 0, none⟩) n0 cW) lV m G)) (fun i _ => ((n0 : Int) - intOf i).toNat)
  case atStart => exact ⟨0, ρ, _, [], .inl ⟨rfl, rfl⟩, Nat.zero_le _, rfl, HS0⟩
  case round =>
    obtain ⟨m, ρ1, lV, G, hi, hm, HG, HS⟩ := hrel
    have d0 := HS.out.c.c0
    rcases hi with ⟨rfl, rfl⟩ | rfl
    · have hlt : (-1 : Int) < (n0 : Int) := by omega
      go_wp2
      go_loopw [8] (fun k wr => ∃ (kk : Nat) (ρ2 : Nat → Nat), k = .int .i64 (kk : Int) ∧ kk ≤ n0 ∧ 0 ≤ kk ∧ Hid (Sv w0 ρ2 wr gb E (.slice (some ⟨gN, 0, none⟩) n0 cN) (.slice (some ⟨gW, 0, none⟩) n0 cW) lV (0) G)) (fun k _ => n0 - (intOf k).toNat)
      case atStart => exact ⟨0, ρ1, by first | rfl | go_num, by omega, by omega, HS⟩
      case round =>
        obtain ⟨k, ρ2, rfl, hk, hmk, HK⟩ := hrel
        have b0 := HK.out.c.c0
        by_cases hkn : k < n0
        · have hk1 : (k : Int) < (n0 : Int) := by omega
          have hk0 : (0 : Int) ≤ (k : Int) := by omega
          obtain ⟨⟨t, v, u⟩, he⟩ : ∃ e, E[k]? = some e := ⟨_, List.getElem?_eq_getElem (by rw [HN.out]; exact hkn)⟩
          obtain ⟨_, _, e9, r0, r1, r2, r3⟩ := HK.out.rn he
          rw [HN.out] at e9
          cases e9
          obtain ⟨_, _, e9, s0, s1, s2, s3⟩ := HK.out.rw_ he
          rw [HN.out] at e9
          cases e9
          have ov := HK.out.lv k _ he hmk
          have ou := HK.out.lu k _ he
          have h16 : t.S.length ≤ 16 := HK.out.sz _ (List.mem_of_getElem? he)
          dsimp only at r0 r1 r2 r3 s0 s1 s2 s3 ov ou
          obtain ⟨n, hn⟩ : ∃ n, t.S.length = n := ⟨_, rfl⟩
          rw [hn] at ov ou h16
          obtain ⟨a, c, rfl, A1, -⟩ := ownM_atS ov.own
          obtain ⟨a', c', rfl, A2, -⟩ := ownM_atS ou.own
          have i1 := hid (same22_yes t.O t.z t.R t.S n hn (Nat.le_trans h16 (by decide)) a a' c c' wr.drew A1 A2)
          have CS : Hid (∀ w', Below wr.heap.size wr w' → w'.cell? ⟨gb, 0, none⟩ = some (.slice (some ⟨gN, 0, none⟩) n0 cN) ∧ w'.cell? ⟨gb, 1, none⟩ = some (.slice (some ⟨gW, 0, none⟩) n0 cW) ∧ w'.cell? ⟨gN, k * 4, none⟩ = some (.string t.O) ∧ w'.cell? ⟨gN, k * 4 + 1, none⟩ = some (.int .i64 t.z) ∧ w'.cell? ⟨gN, k * 4 + 2, none⟩ = some (.string t.R) ∧ w'.cell? ⟨gN, k * 4 + 3, none⟩ = some (.slice a n c) ∧ w'.cell? ⟨gW, k * 4, none⟩ = some (.string t.O) ∧ w'.cell? ⟨gW, k * 4 + 1, none⟩ = some (.int .i64 t.z) ∧ w'.cell? ⟨gW, k * 4 + 2, none⟩ = some (.string t.R) ∧ w'.cell? ⟨gW, k * 4 + 3, none⟩ = some (.slice a' n c')) := fun w' b => by
            have hgb := lt_of_heap HK.out.c
            have hgN := HK.out.ln.own.lt gN rfl
            have hgW := HK.out.lw.own.lt gW rfl
            exact ⟨(b.cell (p := ⟨gb, 0, none⟩) hgb).trans b0, (b.cell (p := ⟨gb, 1, none⟩) hgb).trans HK.out.c.c1, (b.cell (p := ⟨gN, k * 4, none⟩) hgN).trans r0, (b.cell (p := ⟨gN, k * 4 + 1, none⟩) hgN).trans r1, (b.cell (p := ⟨gN, k * 4 + 2, none⟩) hgN).trans r2, (b.cell (p := ⟨gN, k * 4 + 3, none⟩) hgN).trans r3, (b.cell (p := ⟨gW, k * 4, none⟩) hgW).trans s0, (b.cell (p := ⟨gW, k * 4 + 1, none⟩) hgW).trans s1, (b.cell (p := ⟨gW, k * 4 + 2, none⟩) hgW).trans s2, (b.cell (p := ⟨gW, k * 4 + 3, none⟩) hgW).trans s3⟩
          clear ov ou A1 A2 he hn r0 r1 r2 r3 s0 s1 s2 s3 h16
          obtain ⟨tO, tz, tR, tS⟩ := t
          dsimp only at i1 CS
          go_upto_region 19 with fail
          refine wp_region_noPanic ?_
          refine wp_region_held_drew (S := fun w' => w'.cell? ⟨gb, 0, none⟩ = some (.slice (some ⟨gN, 0, none⟩) n0 cN) ∧ w'.cell? ⟨gb, 1, none⟩ = some (.slice (some ⟨gW, 0, none⟩) n0 cW) ∧ w'.cell? ⟨gN, k * 4, none⟩ = some (.string tO) ∧ w'.cell? ⟨gN, k * 4 + 1, none⟩ = some (.int .i64 tz) ∧ w'.cell? ⟨gN, k * 4 + 2, none⟩ = some (.string tR) ∧ w'.cell? ⟨gN, k * 4 + 3, none⟩ = some (.slice a n c) ∧ w'.cell? ⟨gW, k * 4, none⟩ = some (.string tO) ∧ w'.cell? ⟨gW, k * 4 + 1, none⟩ = some (.int .i64 tz) ∧ w'.cell? ⟨gW, k * 4 + 2, none⟩ = some (.string tR) ∧ w'.cell? ⟨gW, k * 4 + 3, none⟩ = some (.slice a' n c')) (by kernel_rfl) (CS.out _ (bw_drew wr)) (fun hHeld => ?_)
          refine wpAnyH_take (i := 0) (oi := ⟨some 80, _, _, _, _, _⟩) (v := ?vQ0) rfl (by kernel_rfl) (by kernel_rfl) (by kernel_rfl) (fun _ _ _ h => h) (Or.inl ⟨by rfl, ?hyQ0⟩) (by assumption) ?restQ0
          case hyQ0 => (intro w hSw; (try dsimp only at hSw); go_simp <;> (try with_reducible rfl))
          try simp only [Act.put, List.setIfInBounds_toArray, List.set_cons_zero, List.set_cons_succ]
          refine wpAnyH_take (i := 1) (oi := ⟨some 81, _, _, _, _, _⟩) (v := ?vQ1) rfl (by kernel_rfl) (by kernel_rfl) (by kernel_rfl) (fun _ _ _ h => h) (Or.inl ⟨by rfl, ?hyQ1⟩) (by assumption) ?restQ1
          case hyQ1 => (intro w hSw; (try dsimp only at hSw); go_simp <;> (try with_reducible rfl))
          try simp only [Act.put, List.setIfInBounds_toArray, List.set_cons_zero, List.set_cons_succ]
          refine wpAnyH_take (i := 2) (oi := ⟨some 82, _, _, _, _, _⟩) (v := ?vQ2) rfl (by kernel_rfl) (by kernel_rfl) (by kernel_rfl) (fun _ _ _ h => h) (Or.inl ⟨by rfl, ?hyQ2⟩) (by assumption) ?restQ2
          case hyQ2 => (intro w hSw; (try dsimp only at hSw); go_simp <;> (try with_reducible rfl))
          try simp only [Act.put, List.setIfInBounds_toArray, List.set_cons_zero, List.set_cons_succ]
          refine wpAnyH_take (i := 3) (oi := ⟨some 83, _, _, _, _, _⟩) (v := ?vQ3) rfl (by kernel_rfl) (by kernel_rfl) (by kernel_rfl) (fun _ _ _ h => h) (Or.inl ⟨by rfl, ?hyQ3⟩) (by assumption) ?restQ3
          case hyQ3 => (intro w hSw; (try dsimp only at hSw); go_simp <;> (try with_reducible rfl))
          try simp only [Act.put, List.setIfInBounds_toArray, List.set_cons_zero, List.set_cons_succ]
          refine wpAnyH_take (i := 4) (oi := ⟨some 84, _, _, _, _, _⟩) (v := ?vQ4) rfl (by kernel_rfl) (by kernel_rfl) (by kernel_rfl) (fun _ _ _ h => h) (Or.inl ⟨by rfl, ?hyQ4⟩) (by assumption) ?restQ4
          case hyQ4 => (intro w hSw; (try dsimp only at hSw); go_simp <;> (try with_reducible rfl))
          try simp only [Act.put, List.setIfInBounds_toArray, List.set_cons_zero, List.set_cons_succ]
          refine wpAnyH_take (i := 5) (oi := ⟨some 85, _, _, _, _, _⟩) (v := ?vQ5) rfl (by kernel_rfl) (by kernel_rfl) (by kernel_rfl) (fun _ _ _ h => h) (Or.inl ⟨by rfl, ?hyQ5⟩) (by assumption) ?restQ5
          case hyQ5 => (intro w hSw; (try dsimp only at hSw); go_simp <;> (try with_reducible rfl))
          try simp only [Act.put, List.setIfInBounds_toArray, List.set_cons_zero, List.set_cons_succ]
          refine wpAnyH_take (i := 6) (oi := ⟨some 86, _, _, _, _, _⟩) (v := ?vQ6) rfl (by kernel_rfl) (by kernel_rfl) (by kernel_rfl) (fun _ _ _ h => h) (Or.inl ⟨by rfl, ?hyQ6⟩) (by assumption) ?restQ6
          case hyQ6 => (intro w hSw; (try dsimp only at hSw); go_simp <;> (try with_reducible rfl))
          try simp only [Act.put, List.setIfInBounds_toArray, List.set_cons_zero, List.set_cons_succ]
          refine wpAnyH_take (i := 7) (oi := ⟨some 87, _, _, _, _, _⟩) (v := ?vQ7) rfl (by kernel_rfl) (by kernel_rfl) (by kernel_rfl) (fun _ _ _ h => h) (Or.inl ⟨by rfl, ?hyQ7⟩) (by assumption) ?restQ7
          case hyQ7 => (intro w hSw; (try dsimp only at hSw); go_simp <;> (try with_reducible rfl))
          try simp only [Act.put, List.setIfInBounds_toArray, List.set_cons_zero, List.set_cons_succ]
          refine wpAnyH_take (i := 8) (oi := ⟨some 88, _, _, _, _, _⟩) (v := ?vQ8) rfl (by kernel_rfl) (by kernel_rfl) (by kernel_rfl) (fun _ _ _ h => h) (Or.inl ⟨by rfl, ?hyQ8⟩) (by assumption) ?restQ8
          case hyQ8 => (intro w hSw; (try dsimp only at hSw); go_simp <;> (try with_reducible rfl))
          try simp only [Act.put, List.setIfInBounds_toArray, List.set_cons_zero, List.set_cons_succ]
          refine wpAnyH_take (i := 9) (oi := ⟨some 89, _, _, _, _, _⟩) (v := ?vQ9) rfl (by kernel_rfl) (by kernel_rfl) (by kernel_rfl) (fun _ _ _ h => h) (Or.inl ⟨by rfl, ?hyQ9⟩) (by assumption) ?restQ9
          case hyQ9 => (intro w hSw; (try dsimp only at hSw); go_simp <;> (try with_reducible rfl))
          try simp only [Act.put, List.setIfInBounds_toArray, List.set_cons_zero, List.set_cons_succ]
          refine wpAnyH_take (i := 10) (oi := ⟨some 90, _, _, _, _, _⟩) (v := ?vQ10) rfl (by kernel_rfl) (by kernel_rfl) (by kernel_rfl) (fun _ _ _ h => h) (Or.inl ⟨by rfl, ?hyQ10⟩) (by assumption) ?restQ10
          case hyQ10 => (intro w hSw; (try dsimp only at hSw); go_simp <;> (try with_reducible rfl))
          try simp only [Act.put, List.setIfInBounds_toArray, List.set_cons_zero, List.set_cons_succ]
          refine wpAnyH_take (i := 11) (oi := ⟨some 91, _, _, _, _, _⟩) (v := ?vQ11) rfl (by kernel_rfl) (by kernel_rfl) (by kernel_rfl) (fun _ _ _ h => h) (Or.inl ⟨by rfl, ?hyQ11⟩) (by assumption) ?restQ11
          case hyQ11 => (intro w hSw; (try dsimp only at hSw); go_simp <;> (try with_reducible rfl))
          try simp only [Act.put, List.setIfInBounds_toArray, List.set_cons_zero, List.set_cons_succ]
          refine wpAnyH_take (i := 12) (oi := ⟨some 92, _, _, _, _, _⟩) (v := ?vQ12) rfl (by kernel_rfl) (by kernel_rfl) (by kernel_rfl) (fun _ _ _ h => h) (Or.inl ⟨by rfl, ?hyQ12⟩) (by assumption) ?restQ12
          case hyQ12 => (intro w hSw; (try dsimp only at hSw); go_simp <;> (try with_reducible rfl))
          try simp only [Act.put, List.setIfInBounds_toArray, List.set_cons_zero, List.set_cons_succ]
          refine wpAnyH_take (i := 13) (oi := ⟨some 93, _, _, _, _, _⟩) (v := ?vQ13) rfl (by kernel_rfl) (by kernel_rfl) (by kernel_rfl) (fun _ _ _ h => h) (Or.inl ⟨by rfl, ?hyQ13⟩) (by assumption) ?restQ13
          case hyQ13 => (intro w hSw; (try dsimp only at hSw); go_simp <;> (try with_reducible rfl))
          try simp only [Act.put, List.setIfInBounds_toArray, List.set_cons_zero, List.set_cons_succ]
          refine wpAnyH_ready (rs := [14]) (by kernel_rfl) (by simp) ?_
          refine AllReadyH.cons (o := ⟨some 94, _, _, _, _, _⟩) rfl (fun K hK => ?_) AllReadyH.nil
          go_simp
          go_at_call 24
          refine (i1.out).mono ?_
          rintro q w4 ⟨rfl, b4⟩
          have B4 := hid ((bw_drew wr).trans b4)
          clear b4
          clear hHeld
          refine hK.out _ _ ?hSQ14 (fun hHeld => ?restQ14)
          case hSQ14 => exact CS.out _ B4.out
          clear hK K
          try simp only [Act.put, List.setIfInBounds_toArray, List.set_cons_zero, List.set_cons_succ]
          refine wpAnyH_take (i := 15) (oi := ⟨some 9, _, _, _, _, _⟩) (v := ?vQ15) rfl (by kernel_rfl) (by kernel_rfl) (by kernel_rfl) (fun _ _ _ h => h) (Or.inl ⟨by rfl, ?hyQ15⟩) (by assumption) ?restQ15
          case hyQ15 => (intro w hSw; (try dsimp only at hSw); go_simp <;> (try with_reducible rfl))
          try simp only [Act.put, List.setIfInBounds_toArray, List.set_cons_zero, List.set_cons_succ]
          refine wpAnyH_done (by kernel_rfl) ?_ _
          refine NoPanic.normal ?_
          clear hHeld CS i1
          have HK4 := hid (HK.out.stay (Stp.below B4.out _ _ 1000001))
          go_wp2
          exact ⟨⟨k + 1, _, by go_num, by omega, by omega, HK4⟩, by simp [intOf]; omega⟩
        · obtain rfl : k = n0 := by omega
          have hknk : ¬ ((k : Int) < (k : Int)) := by omega
          go_wp2
          exact ⟨⟨0, ρ2, lV, G, .inr rfl, Nat.zero_le _, HG, HK⟩, by simp [intOf] <;> omega⟩
    · by_cases hmn : m < n0
      · have hlt : (m : Int) < (n0 : Int) := by omega
        have hge : (0 : Int) ≤ (m : Int) := by omega
        obtain ⟨⟨t, v, u⟩, he⟩ : ∃ e, E[m]? = some e := ⟨_, List.getElem?_eq_getElem (by rw [HN.out]; exact hmn)⟩
        obtain ⟨_, _, e9, -, -, -, r3⟩ := HS.out.rn he
        rw [HN.out] at e9
        cases e9
        have ov := HS.out.lv m _ he (Nat.le_refl _)
        have h16 : t.S.length ≤ 16 := HS.out.sz _ (List.mem_of_getElem? he)
        dsimp only at r3 ov
        obtain ⟨n, hn⟩ : ∃ n, t.S.length = n := ⟨_, rfl⟩
        rw [hn] at ov h16
        obtain ⟨la, c, rfl, A1, -⟩ := ownM_atS ov.own
        have HEM := hid he
        have HNN := hid hn
        have hn16 : (n : Int) ≤ 16 := by omega
        have H16 := hid h16
        clear ov A1 he hn h16
        have hm0 : (m : Int) / 256 = 0 := by omega
        have hcv := mark_conv wr m (by omega)
        have hcat := mark_cat m
        have x0 := Gx.new (wr.alloc (.cells #[.int .u8 (m : Int), .int .u8 0] 5)) ⟨#[]⟩ ⟨#[]⟩
        rw [size_alloc] at x0
        have X0 := hid x0
        have bB : Below wr.heap.size wr (((wr.alloc (.cells #[.int .u8 (m : Int), .int .u8 0] 5)).alloc (.cells #[.string ⟨#[]⟩, .string ⟨#[]⟩] 32)).setRow (wr.heap.size + 1) #[.string (mkT m), .string ⟨#[]⟩]) := Below.setRow (((Below.refl _ _).alloc (Nat.le_refl _) _).alloc (by rw [size_alloc]; exact Nat.le_succ _) _) (Nat.le_succ _) _
        have xB : Gx (((wr.alloc (.cells #[.int .u8 (m : Int), .int .u8 0] 5)).alloc (.cells #[.string ⟨#[]⟩, .string ⟨#[]⟩] 32)).setRow (wr.heap.size + 1) #[.string (mkT m), .string ⟨#[]⟩]) (wr.heap.size + 1) (mkT m) ⟨#[]⟩ := setRow_heap _ _ _ _ _ _ x0
        have M0 := Ms.first (HS.out.stay (Stp.below bB _ _ 1000001)) HEM.out rfl HNN.out xB (extR_new (Nat.le_succ _))
        have M0 := hid M0
        clear x0 bB xB
        generalize extR ρ1 wr 1000001 = ρB at *
        go_upto_region 7 with ((with_reducible show wpList _ _ _ (Oper.mk _ (Op.store 32 _ _) _ _ _ _ :: _) _ _); go_must (refine wpList_store_row rfl 32 _ _ rfl (wr.heap.size + 1) _ rfl rfl 32 _ X0.out (sizeSg22 _ _) rfl (oneSg22 _ _) ?_))
        obtain ⟨wB, hwB⟩ : ∃ wB, ((wr.alloc (.cells #[.int .u8 (m : Int), .int .u8 0] 5)).alloc (.cells #[.string ⟨#[]⟩, .string ⟨#[]⟩] 32)).setRow (wr.heap.size + 1) #[.string (mkT m), .string ⟨#[]⟩] = wB := ⟨_, rfl⟩
        obtain ⟨gm, hgm⟩ : ∃ gm, wr.heap.size + 1 = gm := ⟨_, rfl⟩
        rw [hwB, hgm] at M0
        rw [hwB, hgm]
        clear hwB hgm X0 hcv hcat hm0 d0 r3 HS
        go_wp2
        go_loopw [6] (fun k wr => ∃ (kk : Nat), k = .int .i64 (kk : Int) ∧ kk ≤ n ∧ Hid (Ms w0 ρB wr gb E (.slice (some ⟨gN, 0, none⟩) n0 cN) (.slice (some ⟨gW, 0, none⟩) n0 cW) lV m G la n c gm t.S kk)) (fun k _ => n - (intOf k).toNat)
        case atStart => exact ⟨0, rfl, Nat.zero_le _, M0⟩
        case round =>
          obtain ⟨k, rfl, hk, HM⟩ := hrel
          have e0 := HM.out.b.c0
          have e1 := HM.out.b.c1
          by_cases hkn : k < n
          · have hk1 : (k : Int) < (n : Int) := by omega
            have hk0 : (0 : Int) ≤ (k : Int) := by omega
            obtain ⟨g, rfl, ht, hM2⟩ := HM.out.round hkn HNN.out HG.out (by have := HE.out; have := HN.out; omega)
            have HT := hid ht
            have HM2 := hid hM2
            clear ht hM2
            go_wp2_with ((with_reducible show wpList _ _ _ (Oper.mk _ (Op.store 32 _ _) _ _ _ _ :: _) _ _); go_must (refine wpList_store_mid rfl 32 _ _ rfl g (k * 2) #[.string (mkT m), .string ⟨#[]⟩] rfl rfl HT.out infoSg2 (oneSg22 _ _) ?_))
            exact ⟨⟨k + 1, by go_num, by omega, HM2⟩, by simp [intOf]; omega⟩
          · obtain rfl : k = n := by omega
            have hknk : ¬ ((k : Int) < (k : Int)) := by omega
            have HGs0 := hid (HM.out.last HNN.out HG.out)
            clear e0 e1
            go_wp2
            go_loopw [4, 7] (fun l j wr => ∃ (kk : Nat) (ρ' : Nat → Nat) (lV' : Value) (G' : List Ls) (la' : Option Addr) (N c' : Nat), j = .int .i64 (kk : Int) ∧ kk ≤ 40 ∧ l = .slice la' N c' ∧ Hid (N ≤ 16 + kk) ∧ Hid (G'.length = 40 * m + kk) ∧ Hid (Gs w0 ρ' wr gb E (.slice (some ⟨gN, 0, none⟩) n0 cN) (.slice (some ⟨gW, 0, none⟩) n0 cW) lV' m G' la' N c' gm)) (fun _ j _ => 40 - (intOf j).toNat)
            case atStart => exact ⟨0, ρB, lV, G, la, k, c, rfl, by omega, rfl, H16.out, HG.out, HGs0⟩
            case round =>
              obtain ⟨kk, ρ3, lV3, G3, la3, N, c3, rfl, hkk, rfl, hN3, hG3, HGs⟩ := hrel
              obtain ⟨aL, cL, hLV, -, -⟩ := HGs.out.s.ll.own.shape
              obtain ⟨nL, hnL⟩ : ∃ nL, G3.length = nL := ⟨_, rfl⟩
              rw [hnL] at hLV
              subst hLV
              by_cases hk4 : kk < 40
              · have hk41 : (kk : Int) < 40 := by omega
                obtain ⟨lV4, w1, la4, c4, w2, ρ4, a1, k1, b1, a2, hGs4⟩ := HGs.out.round kk hk4 hG3.out (by have := hN3.out; omega) (by have := HE.out; have := HN.out; omega)
                obtain ⟨aM, cM, hLV, -, -⟩ := hGs4.s.ll.own.shape
                rw [List.length_append, List.length_singleton, hnL] at hLV
                subst hLV
                have q2 := HGs.out.s.c.c2
                have q3 := k1.c2
                have f3 : w1.frozen? ⟨gb, 2, none⟩ = false := frozen_of_row _ _ _ _ _ k1
                have e0 := b1.c0
                have e1 := b1.c1
                have HG4 := hid hGs4
                have hG4 : Hid ((G3 ++ [(la3, N, c3)]).length = 40 * m + (kk + 1)) := hid (by rw [List.length_append, List.length_singleton, hG3.out]; omega)
                have hN4 : Hid (N + 1 ≤ 16 + (kk + 1)) := hid (by have := hN3.out; omega)
                clear k1 b1 hGs4
                go_wp2_with (first
                  | ((with_reducible show wpList _ _ _ (Oper.mk _ (Op.call { callee := Callee.builtin Builtin.append, args := _, argTypes := #[36, 36] }) _ _ _ _ :: _) _ _); (refine Lib.wpList_append_run _ rfl _ _ 36 36 rfl (.slice aL nL cL) (.slice (some ⟨wr.heap.size, 0, none⟩) 1 1) ?hs ?hx _ _ a1 ?_); (case hs => go_simp); (case hx => go_simp))
                  | ((with_reducible show wpList _ _ _ (Oper.mk _ (Op.call { callee := Callee.builtin Builtin.append, args := _, argTypes := #[24, 24] }) _ _ _ _ :: _) _ _); (refine Lib.wpList_append_run _ rfl _ _ 24 24 rfl (.slice la3 N c3) (.slice (some ⟨w1.heap.size, 0, none⟩) 1 1) ?hs ?hx _ _ a2 ?_); (case hs => go_simp); (case hx => go_simp)))
                exact ⟨⟨kk + 1, ρ4, _, _, la4, N + 1, c4, by go_num, by omega, rfl, hN4, hG4, HG4⟩, by simp [intOf]; omega⟩
              · obtain rfl : kk = 40 := by omega
                have hk40 : ¬ ((40 : Int) < 40) := by omega
                have HS5 := hid HGs.out.s
                have hG5 : Hid (G3.length = 40 * (m + 1)) := hid (by have := hG3.out; omega)
                clear HGs hG3 hN3
                go_wp2
                go_loopw [8] (fun k wr => ∃ (kk : Nat) (ρ2 : Nat → Nat), k = .int .i64 (kk : Int) ∧ kk ≤ n0 ∧ m + 1 ≤ kk ∧ Hid (Sv w0 ρ2 wr gb E (.slice (some ⟨gN, 0, none⟩) n0 cN) (.slice (some ⟨gW, 0, none⟩) n0 cW) (.slice aL nL cL) (m + 1) G3)) (fun k _ => n0 - (intOf k).toNat)
                case atStart => exact ⟨m + 1, ρ3, by first | rfl | go_num, by omega, by omega, HS5⟩
                case round =>
                  obtain ⟨k, ρ2, rfl, hk, hmk, HK⟩ := hrel
                  have b0 := HK.out.c.c0
                  by_cases hkn : k < n0
                  · have hk1 : (k : Int) < (n0 : Int) := by omega
                    have hk0 : (0 : Int) ≤ (k : Int) := by omega
                    obtain ⟨⟨t, v, u⟩, he⟩ : ∃ e, E[k]? = some e := ⟨_, List.getElem?_eq_getElem (by rw [HN.out]; exact hkn)⟩
                    obtain ⟨_, _, e9, r0, r1, r2, r3⟩ := HK.out.rn he
                    rw [HN.out] at e9
                    cases e9
                    obtain ⟨_, _, e9, s0, s1, s2, s3⟩ := HK.out.rw_ he
                    rw [HN.out] at e9
                    cases e9
                    have ov := HK.out.lv k _ he hmk
                    have ou := HK.out.lu k _ he
                    have h16 : t.S.length ≤ 16 := HK.out.sz _ (List.mem_of_getElem? he)
                    dsimp only at r0 r1 r2 r3 s0 s1 s2 s3 ov ou
                    obtain ⟨n, hn⟩ : ∃ n, t.S.length = n := ⟨_, rfl⟩
                    rw [hn] at ov ou h16
                    obtain ⟨a, c, rfl, A1, -⟩ := ownM_atS ov.own
                    obtain ⟨a', c', rfl, A2, -⟩ := ownM_atS ou.own
                    have i1 := hid (same22_yes t.O t.z t.R t.S n hn (Nat.le_trans h16 (by decide)) a a' c c' wr.drew A1 A2)
                    have CS : Hid (∀ w', Below wr.heap.size wr w' → w'.cell? ⟨gb, 0, none⟩ = some (.slice (some ⟨gN, 0, none⟩) n0 cN) ∧ w'.cell? ⟨gb, 1, none⟩ = some (.slice (some ⟨gW, 0, none⟩) n0 cW) ∧ w'.cell? ⟨gN, k * 4, none⟩ = some (.string t.O) ∧ w'.cell? ⟨gN, k * 4 + 1, none⟩ = some (.int .i64 t.z) ∧ w'.cell? ⟨gN, k * 4 + 2, none⟩ = some (.string t.R) ∧ w'.cell? ⟨gN, k * 4 + 3, none⟩ = some (.slice a n c) ∧ w'.cell? ⟨gW, k * 4, none⟩ = some (.string t.O) ∧ w'.cell? ⟨gW, k * 4 + 1, none⟩ = some (.int .i64 t.z) ∧ w'.cell? ⟨gW, k * 4 + 2, none⟩ = some (.string t.R) ∧ w'.cell? ⟨gW, k * 4 + 3, none⟩ = some (.slice a' n c')) := fun w' b => by
                      have hgb := lt_of_heap HK.out.c
                      have hgN := HK.out.ln.own.lt gN rfl
                      have hgW := HK.out.lw.own.lt gW rfl
                      exact ⟨(b.cell (p := ⟨gb, 0, none⟩) hgb).trans b0, (b.cell (p := ⟨gb, 1, none⟩) hgb).trans HK.out.c.c1, (b.cell (p := ⟨gN, k * 4, none⟩) hgN).trans r0, (b.cell (p := ⟨gN, k * 4 + 1, none⟩) hgN).trans r1, (b.cell (p := ⟨gN, k * 4 + 2, none⟩) hgN).trans r2, (b.cell (p := ⟨gN, k * 4 + 3, none⟩) hgN).trans r3, (b.cell (p := ⟨gW, k * 4, none⟩) hgW).trans s0, (b.cell (p := ⟨gW, k * 4 + 1, none⟩) hgW).trans s1, (b.cell (p := ⟨gW, k * 4 + 2, none⟩) hgW).trans s2, (b.cell (p := ⟨gW, k * 4 + 3, none⟩) hgW).trans s3⟩
                    clear ov ou A1 A2 he hn r0 r1 r2 r3 s0 s1 s2 s3 h16
                    obtain ⟨tO, tz, tR, tS⟩ := t
                    dsimp only at i1 CS
                    go_upto_region 19 with fail
                    refine wp_region_noPanic ?_
                    refine wp_region_held_drew (S := fun w' => w'.cell? ⟨gb, 0, none⟩ = some (.slice (some ⟨gN, 0, none⟩) n0 cN) ∧ w'.cell? ⟨gb, 1, none⟩ = some (.slice (some ⟨gW, 0, none⟩) n0 cW) ∧ w'.cell? ⟨gN, k * 4, none⟩ = some (.string tO) ∧ w'.cell? ⟨gN, k * 4 + 1, none⟩ = some (.int .i64 tz) ∧ w'.cell? ⟨gN, k * 4 + 2, none⟩ = some (.string tR) ∧ w'.cell? ⟨gN, k * 4 + 3, none⟩ = some (.slice a n c) ∧ w'.cell? ⟨gW, k * 4, none⟩ = some (.string tO) ∧ w'.cell? ⟨gW, k * 4 + 1, none⟩ = some (.int .i64 tz) ∧ w'.cell? ⟨gW, k * 4 + 2, none⟩ = some (.string tR) ∧ w'.cell? ⟨gW, k * 4 + 3, none⟩ = some (.slice a' n c')) (by kernel_rfl) (CS.out _ (bw_drew wr)) (fun hHeld => ?_)
                    refine wpAnyH_take (i := 0) (oi := ⟨some 80, _, _, _, _, _⟩) (v := ?vZ0) rfl (by kernel_rfl) (by kernel_rfl) (by kernel_rfl) (fun _ _ _ h => h) (Or.inl ⟨by rfl, ?hyZ0⟩) (by assumption) ?restZ0
                    case hyZ0 => (intro w hSw; (try dsimp only at hSw); go_simp <;> (try with_reducible rfl))
                    try simp only [Act.put, List.setIfInBounds_toArray, List.set_cons_zero, List.set_cons_succ]
                    refine wpAnyH_take (i := 1) (oi := ⟨some 81, _, _, _, _, _⟩) (v := ?vZ1) rfl (by kernel_rfl) (by kernel_rfl) (by kernel_rfl) (fun _ _ _ h => h) (Or.inl ⟨by rfl, ?hyZ1⟩) (by assumption) ?restZ1
                    case hyZ1 => (intro w hSw; (try dsimp only at hSw); go_simp <;> (try with_reducible rfl))
                    try simp only [Act.put, List.setIfInBounds_toArray, List.set_cons_zero, List.set_cons_succ]
                    refine wpAnyH_take (i := 2) (oi := ⟨some 82, _, _, _, _, _⟩) (v := ?vZ2) rfl (by kernel_rfl) (by kernel_rfl) (by kernel_rfl) (fun _ _ _ h => h) (Or.inl ⟨by rfl, ?hyZ2⟩) (by assumption) ?restZ2
                    case hyZ2 => (intro w hSw; (try dsimp only at hSw); go_simp <;> (try with_reducible rfl))
                    try simp only [Act.put, List.setIfInBounds_toArray, List.set_cons_zero, List.set_cons_succ]
                    refine wpAnyH_take (i := 3) (oi := ⟨some 83, _, _, _, _, _⟩) (v := ?vZ3) rfl (by kernel_rfl) (by kernel_rfl) (by kernel_rfl) (fun _ _ _ h => h) (Or.inl ⟨by rfl, ?hyZ3⟩) (by assumption) ?restZ3
                    case hyZ3 => (intro w hSw; (try dsimp only at hSw); go_simp <;> (try with_reducible rfl))
                    try simp only [Act.put, List.setIfInBounds_toArray, List.set_cons_zero, List.set_cons_succ]
                    refine wpAnyH_take (i := 4) (oi := ⟨some 84, _, _, _, _, _⟩) (v := ?vZ4) rfl (by kernel_rfl) (by kernel_rfl) (by kernel_rfl) (fun _ _ _ h => h) (Or.inl ⟨by rfl, ?hyZ4⟩) (by assumption) ?restZ4
                    case hyZ4 => (intro w hSw; (try dsimp only at hSw); go_simp <;> (try with_reducible rfl))
                    try simp only [Act.put, List.setIfInBounds_toArray, List.set_cons_zero, List.set_cons_succ]
                    refine wpAnyH_take (i := 5) (oi := ⟨some 85, _, _, _, _, _⟩) (v := ?vZ5) rfl (by kernel_rfl) (by kernel_rfl) (by kernel_rfl) (fun _ _ _ h => h) (Or.inl ⟨by rfl, ?hyZ5⟩) (by assumption) ?restZ5
                    case hyZ5 => (intro w hSw; (try dsimp only at hSw); go_simp <;> (try with_reducible rfl))
                    try simp only [Act.put, List.setIfInBounds_toArray, List.set_cons_zero, List.set_cons_succ]
                    refine wpAnyH_take (i := 6) (oi := ⟨some 86, _, _, _, _, _⟩) (v := ?vZ6) rfl (by kernel_rfl) (by kernel_rfl) (by kernel_rfl) (fun _ _ _ h => h) (Or.inl ⟨by rfl, ?hyZ6⟩) (by assumption) ?restZ6
                    case hyZ6 => (intro w hSw; (try dsimp only at hSw); go_simp <;> (try with_reducible rfl))
                    try simp only [Act.put, List.setIfInBounds_toArray, List.set_cons_zero, List.set_cons_succ]
                    refine wpAnyH_take (i := 7) (oi := ⟨some 87, _, _, _, _, _⟩) (v := ?vZ7) rfl (by kernel_rfl) (by kernel_rfl) (by kernel_rfl) (fun _ _ _ h => h) (Or.inl ⟨by rfl, ?hyZ7⟩) (by assumption) ?restZ7
                    case hyZ7 => (intro w hSw; (try dsimp only at hSw); go_simp <;> (try with_reducible rfl))
                    try simp only [Act.put, List.setIfInBounds_toArray, List.set_cons_zero, List.set_cons_succ]
                    refine wpAnyH_take (i := 8) (oi := ⟨some 88, _, _, _, _, _⟩) (v := ?vZ8) rfl (by kernel_rfl) (by kernel_rfl) (by kernel_rfl) (fun _ _ _ h => h) (Or.inl ⟨by rfl, ?hyZ8⟩) (by assumption) ?restZ8
                    case hyZ8 => (intro w hSw; (try dsimp only at hSw); go_simp <;> (try with_reducible rfl))
                    try simp only [Act.put, List.setIfInBounds_toArray, List.set_cons_zero, List.set_cons_succ]
                    refine wpAnyH_take (i := 9) (oi := ⟨some 89, _, _, _, _, _⟩) (v := ?vZ9) rfl (by kernel_rfl) (by kernel_rfl) (by kernel_rfl) (fun _ _ _ h => h) (Or.inl ⟨by rfl, ?hyZ9⟩) (by assumption) ?restZ9
                    case hyZ9 => (intro w hSw; (try dsimp only at hSw); go_simp <;> (try with_reducible rfl))
                    try simp only [Act.put, List.setIfInBounds_toArray, List.set_cons_zero, List.set_cons_succ]
                    refine wpAnyH_take (i := 10) (oi := ⟨some 90, _, _, _, _, _⟩) (v := ?vZ10) rfl (by kernel_rfl) (by kernel_rfl) (by kernel_rfl) (fun _ _ _ h => h) (Or.inl ⟨by rfl, ?hyZ10⟩) (by assumption) ?restZ10
                    case hyZ10 => (intro w hSw; (try dsimp only at hSw); go_simp <;> (try with_reducible rfl))
                    try simp only [Act.put, List.setIfInBounds_toArray, List.set_cons_zero, List.set_cons_succ]
                    refine wpAnyH_take (i := 11) (oi := ⟨some 91, _, _, _, _, _⟩) (v := ?vZ11) rfl (by kernel_rfl) (by kernel_rfl) (by kernel_rfl) (fun _ _ _ h => h) (Or.inl ⟨by rfl, ?hyZ11⟩) (by assumption) ?restZ11
                    case hyZ11 => (intro w hSw; (try dsimp only at hSw); go_simp <;> (try with_reducible rfl))
                    try simp only [Act.put, List.setIfInBounds_toArray, List.set_cons_zero, List.set_cons_succ]
                    refine wpAnyH_take (i := 12) (oi := ⟨some 92, _, _, _, _, _⟩) (v := ?vZ12) rfl (by kernel_rfl) (by kernel_rfl) (by kernel_rfl) (fun _ _ _ h => h) (Or.inl ⟨by rfl, ?hyZ12⟩) (by assumption) ?restZ12
                    case hyZ12 => (intro w hSw; (try dsimp only at hSw); go_simp <;> (try with_reducible rfl))
                    try simp only [Act.put, List.setIfInBounds_toArray, List.set_cons_zero, List.set_cons_succ]
                    refine wpAnyH_take (i := 13) (oi := ⟨some 93, _, _, _, _, _⟩) (v := ?vZ13) rfl (by kernel_rfl) (by kernel_rfl) (by kernel_rfl) (fun _ _ _ h => h) (Or.inl ⟨by rfl, ?hyZ13⟩) (by assumption) ?restZ13
                    case hyZ13 => (intro w hSw; (try dsimp only at hSw); go_simp <;> (try with_reducible rfl))
                    try simp only [Act.put, List.setIfInBounds_toArray, List.set_cons_zero, List.set_cons_succ]
                    refine wpAnyH_ready (rs := [14]) (by kernel_rfl) (by simp) ?_
                    refine AllReadyH.cons (o := ⟨some 94, _, _, _, _, _⟩) rfl (fun K hK => ?_) AllReadyH.nil
                    go_simp
                    go_at_call 24
                    refine (i1.out).mono ?_
                    rintro q w4 ⟨rfl, b4⟩
                    have B4 := hid ((bw_drew wr).trans b4)
                    clear b4
                    clear hHeld
                    refine hK.out _ _ ?hSZ14 (fun hHeld => ?restZ14)
                    case hSZ14 => exact CS.out _ B4.out
                    clear hK K
                    try simp only [Act.put, List.setIfInBounds_toArray, List.set_cons_zero, List.set_cons_succ]
                    refine wpAnyH_take (i := 15) (oi := ⟨some 9, _, _, _, _, _⟩) (v := ?vZ15) rfl (by kernel_rfl) (by kernel_rfl) (by kernel_rfl) (fun _ _ _ h => h) (Or.inl ⟨by rfl, ?hyZ15⟩) (by assumption) ?restZ15
                    case hyZ15 => (intro w hSw; (try dsimp only at hSw); go_simp <;> (try with_reducible rfl))
                    try simp only [Act.put, List.setIfInBounds_toArray, List.set_cons_zero, List.set_cons_succ]
                    refine wpAnyH_done (by kernel_rfl) ?_ _
                    refine NoPanic.normal ?_
                    clear hHeld CS i1
                    have HK4 := hid (HK.out.stay (Stp.below B4.out _ _ 1000001))
                    go_wp2
                    exact ⟨⟨k + 1, _, by go_num, by omega, by omega, HK4⟩, by simp [intOf]; omega⟩
                  · obtain rfl : k = n0 := by omega
                    have hknk : ¬ ((k : Int) < (k : Int)) := by omega
                    go_wp2
                    exact ⟨⟨m + 1, ρ2, (.slice aL nL cL), G3, .inr (by first | rfl | go_num), by omega, hG5, HK⟩, by simp [intOf] <;> omega⟩
      · obtain rfl : m = n0 := by omega
        have hnlt : ¬ ((m : Int) < (m : Int)) := by omega
        have hGp : 0 < G.length := by rw [HG.out]; omega
        obtain ⟨gL, cL, hLV, -⟩ := HS.out.rl (i := 0) (x := G[0]) (List.getElem?_eq_getElem hGp)
        obtain ⟨nL, hnL⟩ : ∃ nL, G.length = nL := ⟨_, rfl⟩
        rw [hnL] at hLV hGp
        subst hLV
        have hnL2 : (nL : Int) ≤ 3600 := by have := HG.out; have := HN.out; have := HE.out; omega
        have HNL := hid hnL
        clear hnL
        go_wp2
        go_loopw [10] (fun i wr => ∃ (j : Nat) (ρ2 : Nat → Nat), i = .int .i64 (j : Int) ∧ j ≤ nL ∧ Hid (Sv w0 ρ2 wr gb E (.slice (some ⟨gN, 0, none⟩) m cN) (.slice (some ⟨gW, 0, none⟩) m cW) (.slice (some ⟨gL, 0, none⟩) nL cL) m G)) (fun i _ => nL - (intOf i).toNat)
        case atStart => exact ⟨0, ρ1, rfl, Nat.zero_le _, HS⟩
        case round =>
          obtain ⟨j, ρ2, rfl, hj, HJ⟩ := hrel
          have b2 := HJ.out.c.c2
          by_cases hjn : j < nL
          · have hj1 : (j : Int) < (nL : Int) := by omega
            have hj0 : (0 : Int) ≤ (j : Int) := by omega
            obtain ⟨⟨a, n, c⟩, hx⟩ : ∃ x, G[j]? = some x := ⟨_, List.getElem?_eq_getElem (by rw [HNL.out]; exact hjn)⟩
            have HX := hid hx
            have hn100 : (n : Int) ≤ 100 := by have := (HJ.out.gl j _ hx).few; dsimp only at this; omega
            have hjq : j / 40 ≤ 90 := by omega
            obtain ⟨q, hq⟩ : ∃ q, j / 40 = q := ⟨_, rfl⟩
            have hq2 : (j : Int) / 40 = (q : Int) := by omega
            have HQ := hid hq
            rw [hq] at hjq
            clear hx hq
            go_wp2
            go_loopw [12] (fun i wr => ∃ (k : Nat) (ρ2 : Nat → Nat), i = .int .i64 (k : Int) ∧ k ≤ n ∧ Hid (Sv w0 ρ2 wr gb E (.slice (some ⟨gN, 0, none⟩) m cN) (.slice (some ⟨gW, 0, none⟩) m cW) (.slice (some ⟨gL, 0, none⟩) nL cL) m G)) (fun i _ => n - (intOf i).toNat)
            case atStart => exact ⟨0, ρ2, rfl, Nat.zero_le _, HJ⟩
            case round =>
              obtain ⟨k, ρ4, rfl, hk, HK⟩ := hrel
              have b2 := HK.out.c.c2
              obtain ⟨_, _, e9, b3⟩ := HK.out.rl HX.out
              rw [HNL.out] at e9
              cases e9
              dsimp only at b3
              by_cases hkn : k < n
              · have hk1 : (k : Int) < (n : Int) := by omega
                have hk0 : (0 : Int) ≤ (k : Int) := by omega
                have hm := HK.out.gl j _ HX.out
                dsimp only at hm
                rw [HQ.out] at hm
                obtain ⟨g, rfl, hg, s0, s1⟩ := hm.cells hkn
                have CS : Hid (∀ w', Below wr.heap.size wr w' → w'.cell? ⟨gb, 2, none⟩ = some (.slice (some ⟨gL, 0, none⟩) nL cL) ∧ w'.cell? ⟨gL, j, none⟩ = some (.slice (some ⟨g, 0, none⟩) n c) ∧ w'.cell? ⟨g, k * 2, none⟩ = some (.string (mkT q)) ∧ w'.cell? ⟨g, k * 2 + 1, none⟩ = some (.string ⟨#[]⟩)) := fun w' b => by
                  have hgb := lt_of_heap HK.out.c
                  have hgL := HK.out.ll.own.lt gL rfl
                  exact ⟨(b.cell (p := ⟨gb, 2, none⟩) hgb).trans b2, (b.cell (p := ⟨gL, j, none⟩) hgL).trans b3, (b.cell (p := ⟨g, k * 2, none⟩) hg).trans s0, (b.cell (p := ⟨g, k * 2 + 1, none⟩) hg).trans s1⟩
                clear hm hg s0 s1
                have hm0 : (q : Int) / 256 = 0 := by omega
                have hcv : (convert 43 9 (.slice (some ⟨wr.heap.size, 0, none⟩) 2 2)).run Tryz.prog (wr.alloc (.cells #[.int .u8 (q : Int), .int .u8 0] 5)).drew = .ok (.string ⟨#[UInt8.ofNat q, 0]⟩) (wr.alloc (.cells #[.int .u8 (q : Int), .int .u8 0] 5)).drew := mark_conv wr.drew q (by omega)
                have hcat := mark_cat q
                have hw1 : IntKind.u8.wrap (q : Int) = (q : Int) := by rw [IntKind.wrap_u8]; omega
                have hw0 : IntKind.u8.wrap 0 = 0 := by decide
                go_upto_region 29 with fail
                refine wp_region_noPanic ?_
                refine wp_region_held_drew (S := fun w' => w'.cell? ⟨gb, 2, none⟩ = some (.slice (some ⟨gL, 0, none⟩) nL cL) ∧ w'.cell? ⟨gL, j, none⟩ = some (.slice (some ⟨g, 0, none⟩) n c) ∧ w'.cell? ⟨g, k * 2, none⟩ = some (.string (mkT q)) ∧ w'.cell? ⟨g, k * 2 + 1, none⟩ = some (.string ⟨#[]⟩)) (by kernel_rfl) (CS.out _ (bw_drew wr)) (fun hHeld => ?_)
                refine wpAnyH_take (i := 0) (oi := ⟨some 120, _, _, _, _, _⟩) (v := ?vR0) rfl (by kernel_rfl) (by kernel_rfl) (by kernel_rfl) (fun _ _ _ h => h) (Or.inl ⟨by rfl, ?hyR0⟩) (by assumption) ?restR0
                case hyR0 => (intro w hSw; (try dsimp only at hSw); go_simp <;> (try with_reducible rfl))
                try simp only [Act.put, List.setIfInBounds_toArray, List.set_cons_zero, List.set_cons_succ]
                refine wpAnyH_take (i := 1) (oi := ⟨some 121, _, _, _, _, _⟩) (v := ?vR1) rfl (by kernel_rfl) (by kernel_rfl) (by kernel_rfl) (fun _ _ _ h => h) (Or.inl ⟨by rfl, ?hyR1⟩) (by assumption) ?restR1
                case hyR1 => (intro w hSw; (try dsimp only at hSw); go_simp <;> (try with_reducible rfl))
                try simp only [Act.put, List.setIfInBounds_toArray, List.set_cons_zero, List.set_cons_succ]
                refine wpAnyH_take (i := 2) (oi := ⟨some 122, _, _, _, _, _⟩) (v := ?vR2) rfl (by kernel_rfl) (by kernel_rfl) (by kernel_rfl) (fun _ _ _ h => h) (Or.inl ⟨by rfl, ?hyR2⟩) (by assumption) ?restR2
                case hyR2 => (intro w hSw; (try dsimp only at hSw); go_simp <;> (try with_reducible rfl))
                try simp only [Act.put, List.setIfInBounds_toArray, List.set_cons_zero, List.set_cons_succ]
                refine wpAnyH_take (i := 3) (oi := ⟨some 123, _, _, _, _, _⟩) (v := ?vR3) rfl (by kernel_rfl) (by kernel_rfl) (by kernel_rfl) (fun _ _ _ h => h) (Or.inl ⟨by rfl, ?hyR3⟩) (by assumption) ?restR3
                case hyR3 => (intro w hSw; (try dsimp only at hSw); go_simp <;> (try with_reducible rfl))
                try simp only [Act.put, List.setIfInBounds_toArray, List.set_cons_zero, List.set_cons_succ]
                refine wpAnyH_take (i := 4) (oi := ⟨some 124, _, _, _, _, _⟩) (v := ?vR4) rfl (by kernel_rfl) (by kernel_rfl) (by kernel_rfl) (fun _ _ _ h => h) (Or.inl ⟨by rfl, ?hyR4⟩) (by assumption) ?restR4
                case hyR4 => (intro w hSw; (try dsimp only at hSw); go_simp <;> (try with_reducible rfl))
                try simp only [Act.put, List.setIfInBounds_toArray, List.set_cons_zero, List.set_cons_succ]
                refine wpAnyH_take (i := 5) (oi := ⟨some 125, _, _, _, _, _⟩) (v := ?vR5) rfl (by kernel_rfl) (by kernel_rfl) (by kernel_rfl) (fun _ _ _ h => h) (Or.inl ⟨by rfl, ?hyR5⟩) (by assumption) ?restR5
                case hyR5 => (intro w hSw; (try dsimp only at hSw); go_simp <;> (try with_reducible rfl))
                try simp only [Act.put, List.setIfInBounds_toArray, List.set_cons_zero, List.set_cons_succ]
                refine wpAnyH_take (i := 6) (oi := ⟨some 126, _, _, _, _, _⟩) (v := ?vR6) rfl (by kernel_rfl) (by kernel_rfl) (by kernel_rfl) (fun _ _ _ h => h) (Or.inl ⟨by rfl, ?hyR6⟩) (by assumption) ?restR6
                case hyR6 => (intro w hSw; (try dsimp only at hSw); go_simp <;> (try with_reducible rfl))
                try simp only [Act.put, List.setIfInBounds_toArray, List.set_cons_zero, List.set_cons_succ]
                refine wpAnyH_take (i := 7) (oi := ⟨some 127, _, _, _, _, _⟩) (v := ?vR7) rfl (by kernel_rfl) (by kernel_rfl) (by kernel_rfl) (fun _ _ _ h => h) (Or.inl ⟨by rfl, ?hyR7⟩) (by assumption) ?restR7
                case hyR7 => (intro w hSw; (try dsimp only at hSw); go_simp <;> (try with_reducible rfl))
                try simp only [Act.put, List.setIfInBounds_toArray, List.set_cons_zero, List.set_cons_succ]
                refine wpAnyH_take (i := 8) (oi := ⟨some 128, _, _, _, _, _⟩) (v := ?vR8) rfl (by kernel_rfl) (by kernel_rfl) (by kernel_rfl) (fun _ _ _ h => h) (Or.inl ⟨by rfl, ?hyR8⟩) (by assumption) ?restR8
                case hyR8 => (intro w hSw; (try dsimp only at hSw); go_simp <;> (try with_reducible rfl))
                try simp only [Act.put, List.setIfInBounds_toArray, List.set_cons_zero, List.set_cons_succ]
                refine wpAnyH_take (i := 9) (oi := ⟨some 129, _, _, _, _, _⟩) (v := ?vR9) rfl (by kernel_rfl) (by kernel_rfl) (by kernel_rfl) (fun _ _ _ h => h) (Or.inl ⟨by rfl, ?hyR9⟩) (by assumption) ?restR9
                case hyR9 => (intro w hSw; (try dsimp only at hSw); go_simp <;> (try with_reducible rfl))
                try simp only [Act.put, List.setIfInBounds_toArray, List.set_cons_zero, List.set_cons_succ]
                refine wpAnyH_take (i := 10) (oi := ⟨some 130, _, _, _, _, _⟩) (v := ?vR10) rfl (by kernel_rfl) (by kernel_rfl) (by kernel_rfl) (fun _ _ _ h => h) (Or.inl ⟨by rfl, ?hyR10⟩) (by assumption) ?restR10
                case hyR10 => (intro w hSw; (try dsimp only at hSw); go_simp <;> (try with_reducible rfl))
                try simp only [Act.put, List.setIfInBounds_toArray, List.set_cons_zero, List.set_cons_succ]
                refine wpAnyH_take (i := 11) (oi := ⟨some 131, _, _, _, _, _⟩) (v := ?vR11) rfl (by kernel_rfl) (by kernel_rfl) (by kernel_rfl) (fun _ _ _ h => h) (Or.inl ⟨by rfl, ?hyR11⟩) (by assumption) ?restR11
                case hyR11 => (intro w hSw; (try dsimp only at hSw); go_simp <;> (try with_reducible rfl))
                try simp only [Act.put, List.setIfInBounds_toArray, List.set_cons_zero, List.set_cons_succ]
                refine wpAnyH_take (i := 12) (oi := ⟨some 132, _, _, _, _, _⟩) (v := ?vR12) rfl (by kernel_rfl) (by kernel_rfl) (by kernel_rfl) (fun _ _ _ h => h) (Or.inl ⟨by rfl, ?hyR12⟩) (by assumption) ?restR12
                case hyR12 => (intro w hSw; (try dsimp only at hSw); go_simp <;> (try with_reducible rfl))
                try simp only [Act.put, List.setIfInBounds_toArray, List.set_cons_zero, List.set_cons_succ]
                refine wpAnyH_take (i := 13) (oi := ⟨some 133, _, _, _, _, _⟩) (v := ?vR13) rfl (by kernel_rfl) (by kernel_rfl) (by kernel_rfl) (fun _ _ _ h => h) (Or.inl ⟨by rfl, ?hyR13⟩) (by assumption) ?restR13
                case hyR13 => (intro w hSw; (try dsimp only at hSw); go_simp <;> (try with_reducible rfl))
                try simp only [Act.put, List.setIfInBounds_toArray, List.set_cons_zero, List.set_cons_succ]
                refine wpAnyH_take (i := 14) (oi := ⟨some 134, _, _, _, _, _⟩) (v := ?vR14) rfl (by kernel_rfl) (by kernel_rfl) (by kernel_rfl) (fun _ _ _ h => h) (Or.inl ⟨by rfl, ?hyR14⟩) (by assumption) ?restR14
                case hyR14 => (intro w hSw; (try dsimp only at hSw); go_simp <;> (try with_reducible rfl))
                try simp only [Act.put, List.setIfInBounds_toArray, List.set_cons_zero, List.set_cons_succ]
                refine wpAnyH_ready (rs := [15]) (by kernel_rfl) (by simp) ?_
                refine AllReadyH.cons (o := ⟨some 135, _, _, _, _, _⟩) rfl (fun K hK => ?_) AllReadyH.nil
                go_simp
                have B4 := hid ((bw_drew wr).alloc (Nat.le_refl _) (.cells #[.int .u8 (q : Int), .int .u8 0] 5))
                clear hHeld
                refine hK.out _ _ ?hSR15 (fun hHeld => ?restR15)
                case hSR15 => exact CS.out _ B4.out
                clear hK K
                try simp only [Act.put, List.setIfInBounds_toArray, List.set_cons_zero, List.set_cons_succ]
                refine wpAnyH_ready (rs := [16]) (by kernel_rfl) (by simp) ?_
                refine AllReadyH.cons (o := ⟨some 136, _, _, _, _, _⟩) rfl (fun K hK => ?_) AllReadyH.nil
                go_simp
                clear hHeld
                refine hK.out _ _ ?hSR16 (fun hHeld => ?restR16)
                case hSR16 => exact CS.out _ B4.out
                clear hK K
                try simp only [Act.put, List.setIfInBounds_toArray, List.set_cons_zero, List.set_cons_succ]
                refine wpAnyH_take (i := 17) (oi := ⟨some 137, _, _, _, _, _⟩) (v := ?vR17) rfl (by kernel_rfl) (by kernel_rfl) (by kernel_rfl) (fun _ _ _ h => h) (Or.inl ⟨by rfl, ?hyR17⟩) (by assumption) ?restR17
                case hyR17 => (intro w hSw; (try dsimp only at hSw); go_simp <;> (try with_reducible rfl))
                try simp only [Act.put, List.setIfInBounds_toArray, List.set_cons_zero, List.set_cons_succ]
                refine wpAnyH_take (i := 18) (oi := ⟨some 138, _, _, _, _, _⟩) (v := ?vR18) rfl (by kernel_rfl) (by kernel_rfl) (by kernel_rfl) (fun _ _ _ h => h) (Or.inl ⟨by rfl, ?hyR18⟩) (by assumption) ?restR18
                case hyR18 => (intro w hSw; (try dsimp only at hSw); go_simp <;> (try with_reducible rfl))
                try simp only [Act.put, List.setIfInBounds_toArray, List.set_cons_zero, List.set_cons_succ]
                refine wpAnyH_take (i := 19) (oi := ⟨some 139, _, _, _, _, _⟩) (v := ?vR19) rfl (by kernel_rfl) (by kernel_rfl) (by kernel_rfl) (fun _ _ _ h => h) (Or.inl ⟨by rfl, ?hyR19⟩) (by assumption) ?restR19
                case hyR19 => (intro w hSw; (try dsimp only at hSw); go_simp <;> (try with_reducible rfl))
                try simp only [Act.put, List.setIfInBounds_toArray, List.set_cons_zero, List.set_cons_succ]
                refine wpAnyH_done (by kernel_rfl) ?_ _
                refine NoPanic.normal ?_
                clear hHeld CS hcv hcat hm0 hw1 hw0
                have HK4 := hid (HK.out.stay (Stp.below B4.out _ _ 1000001))
                go_wp2
                exact ⟨⟨k + 1, _, by go_num, by omega, HK4⟩, by simp [intOf]; omega⟩
              · obtain rfl : k = n := by omega
                have hknk : ¬ ((k : Int) < (k : Int)) := by omega
                go_wp2
                exact ⟨⟨j + 1, ρ4, by go_num, by omega, HK⟩, by simp [intOf]; omega⟩
          · obtain rfl : j = nL := by omega
            have hjnj : ¬ ((j : Int) < (j : Int)) := by omega
            go_wp2
            go_ret
            exact ⟨rfl, HJ.out.bb⟩
end Nt
end Go.Proofs.YtdbbemcddhgbcaaGreatDoor
