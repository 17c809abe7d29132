import Derived.Test.YtdbbemcddhgbcaaGreatDoorPpNR9
import Derived.Test.YtdbbemcddhgbcaaGreatDoorPpNG7
import Derived.Test.YtdbbemcddhgbcaaGreatDoorPpX1
import Derived.Test.YtdbbemcddhgbcaaGreatDoorPpNC4
/- Layer 22, the law: parses, in its own words; what stands around the book -/
namespace Go.Proofs.YtdbbemcddhgbcaaGreatDoor
open Go.RowKit Go.Shelf
namespace Nt
def psT (s : ByteArray) : Nr × Int × Int := match psA s with
  | (some t, _) => (t, 0, 0)
  | (none, k) => (nr0, 220, (k : Int) + 1)
theorem prs_few : ∀ (f k : Nat) (t : Nr) (s : ByteArray) (t' : Nr), t.S.length ≤ 16 → (prs f k t s).1 = some t' → t'.S.length ≤ 16
  | 0, _, _, _, _, _, h => by unfold prs at h; cases h
  | f + 1, k, t, s, t', ht, h => by
    unfold prs at h
    split at h
    · split at h
      · rename_i t1 h1
        exact prs_few f _ _ _ t' (stp_few h1 ht) h
      · cases h
    · split at h
      · cases h; exact ht
      · cases h
theorem psT_few (s : ByteArray) : (psT s).1.S.length ≤ 16 := by
  unfold psT
  split
  · rename_i t k h
    exact prs_few (s.size + 1) 0 nr0 s t (by decide) (by show (psA s).1 = _; rw [h])
  · exact Nat.zero_le 16
theorem pq_of {s : ByteArray} {n : Nat} (hn : (psT s).1.S.length = n) {w w' : World} {q : Ending} (h : PsQ w.heap.size (psA s) q w' ∧ Below w.heap.size w w') : Pq (psT s).1 n (psT s).2.1 (psT s).2.2 w q w' := by
  obtain ⟨h, b⟩ := h
  refine ⟨?_, b⟩
  unfold psT at hn ⊢
  unfold PsQ at h
  revert h hn
  generalize psA s = P
  obtain ⟨o, k⟩ := P
  cases o with
  | none =>
    intro hn h
    simp only at hn h ⊢
    subst hn
    exact ⟨none, 0, h, .inl ⟨rfl, rfl, rfl⟩, fun k hk => by cases hk⟩
  | some t =>
    intro hn h
    simp only at hn h ⊢
    obtain ⟨v, e, o, f⟩ := h
    obtain ⟨a, cp, rfl, -, -⟩ := o.shape
    rw [hn] at e o f
    exact ⟨a, cp, e, o, f⟩
theorem parses22_any {E9 : Es} {ρ : Nat → Nat} {w : World} (hN : Nw w E9) {gb : Nat} {E : List En} {nV wV lV : Value} (h : Bk ρ w gb E nV wV lV) (hE : E.length < 98) (s : ByteArray) (hs : s.size ≤ 1900000) :
    Calls Tryz.prog 10 #[.pointer (some ⟨gb, 0, none⟩), .string s] w fun e w' => e = .returned (.bool true) ∧ ∃ ρ' nV' wV' e1 e2, Bk ρ' w' gb (E ++ [e1] ++ [e2]) nV' wV' lV ∧ Stp (fun r => r < 3) ρ ρ' w w' :=
  parses22_gen h hE s (psT s).1 _ rfl (psT_few s) (psT s).2.1 (psT s).2.2 (fun w' b => (parse_any (hN.below b) s (Nat.le_trans hs (by decide))).mono fun _ _ h => pq_of rfl h) (fun w' => (rparse_any s hs w').mono fun _ _ h => pq_of rfl h)
/-- the book beside what stood before it -/
structure Wk (w1 : World) (gb : Nat) (w : World) (m : Nat) : Prop where
  b : Below w1.heap.size w1 w
  k : ∃ (ρ : Nat → Nat) (E : List En) (nV wV : Value), E.length = m ∧ (∀ k, k < w1.heap.size → ρ k = 1000000) ∧ Bk ρ w gb E nV wV (.slice none 0 0)
theorem Wk.below {w1 w w' : World} {gb m : Nat} (h : Wk w1 gb w m) (b : Below w.heap.size w w') : Wk w1 gb w' m := by
  obtain ⟨ρ, E, nV, wV, h1, h2, h3⟩ := h.k
  have s : Stp (fun _ => False) ρ (extR ρ w 1000001) w w' := Stp.below b _ _ _
  exact ⟨h.b.trans (b.mono h.b.size), _, E, nV, wV, h1, fun k hk => (s.ext k (Nat.lt_of_lt_of_le hk h.b.size)).trans (h2 k hk), h3.step s fun _ e => e.elim⟩
theorem Wk.parses {E9 : Es} {w1 w : World} {gb m : Nat} (h : Wk w1 gb w m) (hN : Nw w1 E9) (hm : m < 98) (s : ByteArray) (hs : s.size ≤ 1900000) :
    Calls Tryz.prog 10 #[.pointer (some ⟨gb, 0, none⟩), .string s] w fun e w' => e = .returned (.bool true) ∧ Wk w1 gb w' (m + 2) := by
  obtain ⟨ρ, E, nV, wV, h1, h2, h3⟩ := h.k
  refine (parses22_any (hN.below h.b) h3 (by omega) s hs).mono ?_
  rintro e w' ⟨rfl, ρ', nV', wV', e1, e2, hB, hS⟩
  refine ⟨rfl, ⟨hS.os.trans h.b.os, hS.tape.trans h.b.tape, hS.output.trans h.b.output, Nat.le_trans h.b.size hS.size, fun k hk => (hS.old k (Nat.lt_of_lt_of_le hk h.b.size) (by rw [h2 k hk]; decide)).trans (h.b.block k hk)⟩, ρ', _, nV', wV', ?_, fun k hk => (hS.ext k (Nat.lt_of_lt_of_le hk h.b.size)).trans (h2 k hk), hB⟩
  rw [List.length_append, List.length_append, h1]
  rfl
theorem Wk.still {w1 w : World} {gb m : Nat} (h : Wk w1 gb w m) (hm : m ≤ 90) (h0 : 0 < m) : Calls Tryz.prog 12 #[.pointer (some ⟨gb, 0, none⟩)] w fun e w' => e = .returned (.bool true) ∧ Below w1.heap.size w1 w' := by
  obtain ⟨ρ, E, nV, wV, h1, h2, h3⟩ := h.k
  exact still22_any h3 h.b h2 (by omega) m h1 h0
theorem Wk.new (w1 : World) : Wk w1 w1.heap.size (w1.alloc (.cells #[.slice none 0 0, .slice none 0 0, .slice none 0 0] 38)) 0 := by
  refine ⟨(Below.refl _ _).alloc (Nat.le_refl _) _, fun k => if k < w1.heap.size then 1000000 else 0, [], .slice none 0 0, .slice none 0 0, rfl, fun k hk => if_pos hk, heap_alloc_new w1 _, if_neg (Nat.lt_irrefl _), Rl.nil _ _ _ _, Rl.nil _ _ _ _, fun i e he => (by simp at he), fun i e he => (by simp at he), fun e he => (by cases he), by decide⟩
end Nt
end Go.Proofs.YtdbbemcddhgbcaaGreatDoor

/- Layer 22: Check of a note without signatures, in the program -/
namespace Go.Proofs.YtdbbemcddhgbcaaGreatDoor
open Go.RowKit Go.Shelf
namespace Nt
set_option maxRecDepth 100000 in
set_option maxHeartbeats 4000000 in
theorem search_nil (c : Nat) (name : ByteArray) (f : Value) (w : World) : Calls Tryz.prog 83 #[.slice none 0 c, .string name, f] w fun q w' => q = .returned (.tuple #[.int .i64 0, .bool false]) ∧ w' = w := by
  go_enter Tryz.func83, Tryz.ntmps83
  go_wp2
  refine wp_loop_rounds 1 ?_
  rw [rounds_succ]
  go_wp2
  go_ret2
  exact ⟨rfl, rfl⟩
set_option maxRecDepth 100000 in
set_option maxHeartbeats 4000000 in
theorem place_nil (c : Nat) (name : ByteArray) (w : World) : Calls Tryz.prog 59 #[.slice none 0 c, .string name] w fun q w' => q = .returned (.tuple #[.int .i64 0, .bool false]) ∧ w' = w := by
  have i1 := fun f => search_nil c name f w
  go_enter Tryz.func59, Tryz.ntmps59
  go_wp2_with (go_at_call 83; (refine (i1 _).mono ?_); rintro q w1 ⟨rfl, h0⟩; have h0 := h0.symm; subst h0)
  go_ret2
  exact ⟨rfl, rfl⟩
set_option maxRecDepth 100000 in
set_option maxHeartbeats 4000000 in
theorem must_nil {E : Es} {w : World} (h : Nw w E) (O R : ByteArray) (z : Int) (c : Nat) (name key : ByteArray) : Calls Tryz.prog 38 #[nv O z R (.slice none 0 c), .agg #[.string name, .string key]] w fun q w' => (∃ x, q = .returned (FV x (EV E.n))) ∧ Below w.heap.size w w' := by
  have i1 := place_nil c name
  have HC := hid (fun w' (b : Below w.heap.size w w') => (h.below b).vn)
  have b0 := (Below.refl w.heap.size w).alloc (Nat.le_refl _) (.cells #[.string O, .int .i64 z, .string R, .slice none 0 c] 26)
  have x0 := Bx.new w O z R (.slice none 0 c)
  obtain ⟨W, hW⟩ : ∃ W, w.alloc (.cells #[.string O, .int .i64 z, .string R, .slice none 0 c] 26) = W := ⟨_, rfl⟩
  rw [hW] at b0 x0
  have b1 := (Below.refl W.heap.size W).alloc (Nat.le_refl _) (.cells #[.string name, .string key] 50)
  have k0 : (W.alloc (.cells #[.string name, .string key] 50)).heap[W.heap.size]? = some (.cells #[.string name, .string key] 50 (0, 0)) := heap_alloc_new W _
  have hz : W.heap.size = w.heap.size + 1 := by rw [← hW, size_alloc]
  obtain ⟨V, hV⟩ : ∃ V, W.alloc (.cells #[.string name, .string key] 50) = V := ⟨_, rfl⟩
  rw [hV] at b1 k0
  have c3 := (x0.below b1).c3
  have c0 : V.cell? ⟨W.heap.size, 0, none⟩ = some (.string name) := by rw [cell_of_row _ _ _ _ _ _ k0]; rfl
  have BV := hid (b0.trans (b1.mono b0.size))
  have cn := HC.out V BV.out
  have HW := hid hW
  have HV := hid hV
  have HZ := hid hz
  clear hW hV hz b0 b1 x0 k0 h
  unfold nv FV EV at *
  go_enter Tryz.func38, Tryz.ntmps38
  go_upto_region 1 with fail
  rw [HW.out, HV.out]
  obtain ⟨g, hg⟩ : ∃ g, w.heap.size = g := ⟨_, rfl⟩
  rw [hg] at c3 ⊢
  rw [HZ.out, hg] at c0
  have HG := hid hg
  clear hg
  go_wp2_with (go_at_call 59; (refine (i1 _).mono ?_); rintro q w1 ⟨rfl, h0⟩; have h0 := h0.symm; subst h0)
  go_ret
  exact ⟨⟨_, rfl⟩, BV.out⟩
set_option maxRecDepth 100000 in
set_option maxHeartbeats 4000000 in
theorem check_nil {E : Es} {w : World} (h : Nw w E) (O R : ByteArray) (z : Int) (c : Nat) (name key : ByteArray) (hok : wrongN O z R [] = 0) : Calls Tryz.prog 17 #[nv O z R (.slice none 0 c), .agg #[.string name, .string key]] w fun q w' => q = .returned (.int .i64 222) ∧ Below w.heap.size w w' := by
  have b0 := (Below.refl w.heap.size w).alloc (Nat.le_refl _) (.cells #[.string O, .int .i64 z, .string R, .slice none 0 c] 26)
  have x0 := Bx.new w O z R (.slice none 0 c)
  obtain ⟨W, hW⟩ : ∃ W, w.alloc (.cells #[.string O, .int .i64 z, .string R, .slice none 0 c] 26) = W := ⟨_, rfl⟩
  rw [hW] at b0 x0
  have b1 := (Below.refl W.heap.size W).alloc (Nat.le_refl _) (.cells #[.string name, .string key] 50)
  have k0 : (W.alloc (.cells #[.string name, .string key] 50)).heap[W.heap.size]? = some (.cells #[.string name, .string key] 50 (0, 0)) := heap_alloc_new W _
  obtain ⟨V, hV⟩ : ∃ V, W.alloc (.cells #[.string name, .string key] 50) = V := ⟨_, rfl⟩
  rw [hV] at b1 k0
  have x1 := x0.below b1
  obtain ⟨g, hg⟩ : ∃ g, w.heap.size = g := ⟨_, rfl⟩
  have hg2 : W.heap.size = g + 1 := by rw [← hW, size_alloc, hg]
  rw [hg] at x1
  rw [hg2] at k0
  have BV := hid (b0.trans (b1.mono b0.size))
  have hN : ∀ w', Below V.heap.size V w' → Nw w' E := fun w' b => h.below (BV.out.trans (b.mono BV.out.size))
  have HX : Hid (∀ w', Below V.heap.size V w' → (w'.cell? ⟨g, 0, none⟩ = some (.string O) ∧ w'.cell? ⟨g, 1, none⟩ = some (.int .i64 z) ∧ w'.cell? ⟨g, 2, none⟩ = some (.string R) ∧ w'.cell? ⟨g, 3, none⟩ = some (.slice none 0 c)) ∧ w'.cell? ⟨g + 1, 0, none⟩ = some (.string name) ∧ w'.cell? ⟨g + 1, 1, none⟩ = some (.string key)) := fun w' b => by
    have y := x1.below b
    have k1 := (b.block _ (lt_of_heap k0)).trans k0
    exact ⟨⟨y.c0, y.c1, y.c2, y.c3⟩, by rw [cell_of_row _ _ _ _ _ _ k1]; rfl, by rw [cell_of_row _ _ _ _ _ _ k1]; rfl⟩
  have i1 := mayNote_any (hN V (Below.refl _ _)) O R z [] 0 rfl (by omega) none c (AtS.nil _ _) 0 hok
  have HI := hid (fun w' (b : Below V.heap.size V w') => must_nil (hN w' b) O R z c name key)
  have HE := hid (fun w' (b : Below V.heap.size V w') x => errnoOf_none (hN w' b) x)
  have HW := hid hW
  have HV := hid hV
  have HG := hid hg
  have HG2 := hid hg2
  have d0 := HX.out V (Below.refl _ _)
  clear hW hV b0 b1 x0 x1 k0 h hg hg2 hN hok
  unfold nv at *
  go_enter Tryz.func17, Tryz.ntmps17
  go_upto_region 1 with fail
  rw [HW.out, HV.out, HG.out]
  obtain ⟨⟨d00, d01, d02, d03⟩, -⟩ := d0
  go_upto_region 4 with (go_at_call 34; (refine i1.mono ?_); rintro q w1 ⟨he, b1⟩; (rcases he with ⟨_, rfl⟩ | ⟨e9, _⟩ | ⟨e9, _⟩); rotate_left; (exact absurd e9 (by decide)); (exact absurd e9 (by decide)))
  obtain ⟨⟨p0, p1, p2, p3⟩, q0, q1⟩ := HX.out w1 b1
  have i2 := HI.out w1 b1
  have HB1 := hid b1
  have HE := hid fun w' (b : Below w1.heap.size w1 w') x => HE.out w' (b1.trans (b.mono b1.size)) x
  clear d00 d01 d02 d03 i1 b1
  unfold FV EV at *
  go_wp2_with (first
    | (go_at_call 38; (refine i2.mono ?_); rintro q w2 ⟨⟨x, rfl⟩, b2⟩; have i3 := HE.out w2 b2 x)
    | (go_at_call 32; (refine i3.mono ?_); rintro q w3 ⟨rfl, b3⟩))
  go_ret
  exact ⟨rfl, BV.out.trans ((HB1.out.trans ((b2.trans (b3.mono b2.size)).mono HB1.out.size)).mono BV.out.size)⟩
end Nt
end Go.Proofs.YtdbbemcddhgbcaaGreatDoor

/- Layer 22, the law: the chapter's examples -/
namespace Go.Proofs.YtdbbemcddhgbcaaGreatDoor
open Go.RowKit Go.Shelf
namespace Nt
def exO : ByteArray := ⟨#[108, 111, 103, 46, 101, 120, 97, 109, 112, 108, 101, 47, 49]⟩
def exR : ByteArray := ⟨(List.replicate 32 (0 : UInt8)).toArray⟩
def exA : ByteArray := ⟨#[108, 111, 103, 46, 101, 120, 97, 109, 112, 108, 101, 47, 49, 10, 53, 10, 65, 65, 65, 65, 65, 65, 65, 65, 65, 65, 65, 65, 65, 65, 65, 65, 65, 65, 65, 65, 65, 65, 65, 65, 65, 65, 65, 65, 65, 65, 65, 65, 65, 65, 65, 65, 65, 65, 65, 65, 65, 65, 65, 61, 10]⟩
def exB : ByteArray := ⟨#[108, 111, 103, 46, 101, 120, 97, 109, 112, 108, 101, 47, 49, 10, 53, 10, 65, 65, 65, 65, 65, 65, 65, 65, 65, 65, 65, 65, 65, 65, 65, 65, 65, 65, 65, 65, 65, 65, 65, 65, 65, 65, 65, 65, 65, 65, 65, 65, 65, 65, 65, 65, 65, 65, 65, 65, 65, 65, 65, 61, 10, 10]⟩
theorem exA_size : exA.size = 61 := by decide +kernel
theorem exB_size : exB.size = 62 := by decide +kernel
theorem ex1 : bodyA exO 5 exR = (exA, 0) := by kernel_rfl
theorem ex2 : prtA exO 5 exR [] = (exB, 0) := by kernel_rfl
theorem ex3 : psA ⟨#[]⟩ = (none, 0) := by kernel_rfl
theorem ex4 : psA exA = (none, 3) := by kernel_rfl
theorem ex5 : psA exB = (some ⟨exO, 5, exR, []⟩, 4) := by kernel_rfl
theorem ex6 : wrongN exO 5 exR [] = 0 := by kernel_rfl
theorem ex7 : exB = exA ++ ⟨#[10]⟩ := by decide +kernel
theorem make32n (w : World) : (Instr.makeSlice 43 (.int .i64 32) (.int .i64 32)).run Tryz.prog w = .ok (.slice (some ⟨w.heap.size, 0, none⟩) 32 32) (w.alloc (.cells (bv (List.replicate 32 0)).toArray 5)) := by
  obtain ⟨i0, hi, hz0, hz1, hz2⟩ := info_parts info5'
  have h := run_make (P := Tryz.prog) w 43 5 i0 (.int .u8 0) Tryz.underlying43 hi hz0 .i64 .i64 32 32 (by omega) (by omega) (by rw [hz2]; decide) (by omega)
  rw [hz1] at h
  have e : madeCells (Value.int .u8 0).cells (Int.toNat 32 * 1) = (bv (List.replicate 32 0)).toArray := by
    apply Array.ext'
    have h1 : (madeCells (Value.int .u8 0).cells (Int.toNat 32 * 1)).toList = List.replicate (Int.toNat 32 * 1) (.int .u8 0) := toList_madeCells_one _ _
    rw [h1, bv, List.map_replicate]
    rfl
  rw [e] at h
  exact h
theorem nb_new (w : World) (O : ByteArray) (z : Int) (R : ByteArray) (v : Value) : Below w.heap.size w ((w.alloc (.cells #[.string ⟨#[]⟩, .int .i64 0, .string ⟨#[]⟩, .slice none 0 0] 26)).setRow w.heap.size #[.string O, .int .i64 z, .string R, v]) ∧ Bx ((w.alloc (.cells #[.string ⟨#[]⟩, .int .i64 0, .string ⟨#[]⟩, .slice none 0 0] 26)).setRow w.heap.size #[.string O, .int .i64 z, .string R, v]) w.heap.size O z R v :=
  ⟨Below.setRow ((Below.refl _ _).alloc (Nat.le_refl _) _) (Nat.le_refl _) _, setRow_heap _ _ _ _ _ _ (Bx.new w ⟨#[]⟩ 0 ⟨#[]⟩ (.slice none 0 0))⟩
theorem hd_eq (w : World) : (binOp .eql 23 (.agg #[.int .i64 5, .string exR]) (.agg #[.int .i64 5, .string exR])).run Tryz.prog w = .ok (.bool true) w := by kernel_rfl
set_option maxRecDepth 100000 in
set_option maxHeartbeats 8000000 in
theorem known22_any {E : Es} {w : World} (h : Nw w E) : Calls Tryz.prog 6 #[] w fun q w' => q = .returned (.bool true) ∧ Below w.heap.size w w' := by
  have hmk := make32n w
  have hh := heap_alloc_new w (.cells (bv (List.replicate 32 0)).toArray 5)
  have b0 := (Below.refl w.heap.size w).alloc (Nat.le_refl _) (.cells (bv (List.replicate 32 0)).toArray 5)
  have hz : (w.alloc (.cells (bv (List.replicate 32 0)).toArray 5)).heap.size = w.heap.size + 1 := by rw [size_alloc]
  generalize w.alloc (.cells (bv (List.replicate 32 0)).toArray 5) = w1 at *
  have hcv := run_conv_bytes (P := Tryz.prog) w1 43 9 5 w.heap.size 0 32 32 (List.replicate 32 0) (by simp) Tryz.underlying43 Tryz.underlying5 Tryz.underlying9 (rangeAt_of_list hh (fun j v hv => by rw [Nat.zero_add]; exact hv))
  have es : sv (List.replicate 32 0) = Value.string exR := rfl
  rw [es] at hcv
  have S0 := hid (Bx.new w1 ⟨#[]⟩ 0 ⟨#[]⟩ (.slice none 0 0))
  have HZ := hid hz
  have HB := hid b0
  have HN := hid h
  clear hh es hz b0 h
  go_enter Tryz.func6, Tryz.ntmps6
  go_upto_region 2 with ((with_reducible show wpList _ _ _ (Oper.mk _ (Op.store 26 _ _) _ _ _ _ :: _) _ _); go_must (refine wpList_store_row rfl 26 _ _ rfl w1.heap.size _ rfl rfl 26 _ S0.out (sizeNt22 _ _ _ _) rfl (oneNt22 _ _ _ _ _ _) ?_))
  obtain ⟨BA, SA⟩ := nb_new w1 exO 5 exR (.slice none 0 0)
  obtain ⟨W, hW⟩ : ∃ W, (w1.alloc (.cells #[.string ⟨#[]⟩, .int .i64 0, .string ⟨#[]⟩, .slice none 0 0] 26)).setRow w1.heap.size #[.string exO, .int .i64 5, .string exR, .slice none 0 0] = W := ⟨_, rfl⟩
  rw [hW] at BA SA
  obtain ⟨g, hg⟩ : ∃ g, w1.heap.size = g := ⟨_, rfl⟩
  have BW := hid (HB.out.trans (BA.mono HB.out.size))
  rw [hg] at SA
  have hO : exO = ⟨#[108, 111, 103, 46, 101, 120, 97, 109, 112, 108, 101, 47, 49]⟩ := rfl
  rw [← hO]
  rw [hg] at hW ⊢
  rw [hW]
  have HN := hid (fun w' (b : Below W.heap.size W w') => HN.out.below (BW.out.trans (b.mono BW.out.size)))
  have i1 := hid (fun w' (b : Below W.heap.size W w') => body_any (HN.out w' b) exO exR 5 (.slice none 0 0) exA 0 ex1)
  have i2 := hid (fun w' (b : Below W.heap.size W w') => print_any (HN.out w' b) exO exR 5 [] 0 rfl (by omega) none 0 (AtS.nil _ _) exB 0 ex2)
  have i3 := hid (fun w' (b : Below W.heap.size W w') => (by have h9 := parse_any (HN.out w' b) exB (by rw [exB_size]; omega); rw [ex5] at h9; exact h9 : Calls Tryz.prog 16 #[.string exB] w' fun q w'' => PsQ w'.heap.size (some ⟨exO, 5, exR, []⟩, 4) q w'' ∧ Below w'.heap.size w' w''))
  have i4 := hid (fun w' (b : Below W.heap.size W w') => (by have h9 := parse_any (HN.out w' b) ⟨#[]⟩ (Nat.zero_le _); rw [ex3] at h9; exact h9 : Calls Tryz.prog 16 #[.string ⟨#[]⟩] w' fun q w'' => PsQ w'.heap.size (none, 0) q w'' ∧ Below w'.heap.size w' w''))
  have i5 := hid (fun w' (b : Below W.heap.size W w') => (by have h9 := parse_any (HN.out w' b) exA (by rw [exA_size]; omega); rw [ex4] at h9; exact h9 : Calls Tryz.prog 16 #[.string exA] w' fun q w'' => PsQ w'.heap.size (none, 3) q w'' ∧ Below w'.heap.size w' w''))
  have i6 := hid (fun w' (b : Below W.heap.size W w') => check_nil (HN.out w' b) exO exR 5 0 ⟨#[120]⟩ ⟨#[]⟩ ex6)
  have CS := hid (fun w' (b : Below W.heap.size W w') => (show w'.cell? ⟨g, 0, none⟩ = some (.string exO) ∧ w'.cell? ⟨g, 1, none⟩ = some (.int .i64 5) ∧ w'.cell? ⟨g, 2, none⟩ = some (.string exR) ∧ w'.cell? ⟨g, 3, none⟩ = some (.slice none 0 0) from ⟨(SA.below b).c0, (SA.below b).c1, (SA.below b).c2, (SA.below b).c3⟩))
  have q1 : (exA.toList == [108, 111, 103, 46, 101, 120, 97, 109, 112, 108, 101, 47, 49, 10, 53, 10, 65, 65, 65, 65, 65, 65, 65, 65, 65, 65, 65, 65, 65, 65, 65, 65, 65, 65, 65, 65, 65, 65, 65, 65, 65, 65, 65, 65, 65, 65, 65, 65, 65, 65, 65, 65, 65, 65, 65, 65, 65, 65, 65, 61, 10]) = true := by decide +kernel
  have q2 : (exB.toList == (exA ++ ⟨#[10]⟩).toList) = true := by rw [ex7]; exact beq_self_eq_true _
  have q3 : (exO.toList == exO.toList) = true := beq_self_eq_true _
  have q4 := fun W => hd_eq W
  have q5 : ¬ 9223372036854775807 < exA.size + 1 := by rw [exA_size]; omega
  have HZ2 := hid hg
  clear hmk hcv BA SA hW hg S0 hO HB
  obtain ⟨p0, p1, p2, p3⟩ := CS.out W (Below.refl _ _)
  unfold nv at *
  generalize exA = A at *
  generalize exB = B at *
  generalize exO = O at *
  generalize exR = R at *
  have B0 := hid (Below.refl W.heap.size W)
  go_upto_region 3 with (go_at_call 14; (refine (i1.out W (Below.refl _ _)).mono ?_); rintro q w2 ⟨rfl, b2⟩)
  clear p0 p1 p2 p3 i1 B0
  obtain ⟨p0, p1, p2, p3⟩ := CS.out w2 b2
  go_upto_region 4 with (go_at_call 15; (refine (i2.out w2 b2).mono ?_); rintro q w3 ⟨rfl, b3⟩)
  have B3 := b2.trans (b3.mono b2.size)
  have iP := i3.out w3 B3
  clear p0 p1 p2 p3 i2 b2 b3 i3
  go_upto_region 5 with (first
    | (go_at_call 16; (refine iP.mono ?_); rintro q w4 ⟨⟨v, rfl, ho, -⟩, b4⟩; obtain ⟨a4, c4, rfl, -, -⟩ := ho.shape; have S4 := hid (Bx.new w4 ⟨#[]⟩ 0 ⟨#[]⟩ (.slice none 0 0)); unfold nv)
    | ((with_reducible show wpList _ _ _ (Oper.mk _ (Op.store 26 _ _) _ _ _ _ :: _) _ _); go_must (refine wpList_store_row rfl 26 _ _ rfl w4.heap.size _ rfl rfl 26 _ S4.out (sizeNt22 _ _ _ _) rfl (oneNt22 _ _ _ _ _ _) ?_)))
  have N4 := nb_new w4 O 5 R (.slice a4 0 c4)
  obtain ⟨W4, hW4⟩ : ∃ W4, (w4.alloc (.cells #[.string ⟨#[]⟩, .int .i64 0, .string ⟨#[]⟩, .slice none 0 0] 26)).setRow w4.heap.size #[.string O, .int .i64 5, .string R, .slice a4 0 c4] = W4 := ⟨_, rfl⟩
  rw [hW4] at N4 ⊢
  obtain ⟨g4, hg4⟩ : ∃ g, w4.heap.size = g := ⟨_, rfl⟩
  have B4 := hid (B3.trans ((b4.trans (N4.1.mono b4.size)).mono B3.size))
  obtain ⟨-, X4⟩ := N4
  rw [hg4] at X4 ⊢
  have X4 := hid X4
  have iQ := i4.out W4 B4.out
  clear iP b4 hW4 S4 B3 i4 ho
  go_upto_region 6 with (first
    | (go_at_call 16; (refine iQ.mono ?_); rintro q w5 ⟨rfl, b5⟩; have S5 := hid (Bx.new w5 ⟨#[]⟩ 0 ⟨#[]⟩ (.slice none 0 0)); unfold nv)
    | ((with_reducible show wpList _ _ _ (Oper.mk _ (Op.store 26 _ _) _ _ _ _ :: _) _ _); go_must (refine wpList_store_row rfl 26 _ _ rfl w5.heap.size _ rfl rfl 26 _ S5.out (sizeNt22 _ _ _ _) rfl (oneNt22 _ _ _ _ _ _) ?_)))
  have N5 := nb_new w5 ⟨#[]⟩ 0 ⟨#[]⟩ (.slice none 0 0)
  obtain ⟨W5, hW5⟩ : ∃ W5, (w5.alloc (.cells #[.string ⟨#[]⟩, .int .i64 0, .string ⟨#[]⟩, .slice none 0 0] 26)).setRow w5.heap.size #[.string ⟨#[]⟩, .int .i64 0, .string ⟨#[]⟩, .slice none 0 0] = W5 := ⟨_, rfl⟩
  rw [hW5] at N5 ⊢
  have b45 := b5.trans (N5.1.mono b5.size)
  have B5 := hid (B4.out.trans (b45.mono B4.out.size))
  have X5 := hid (X4.out.below b45)
  have iS := i5.out W5 B5.out
  clear iQ b5 hW5 S5 N5 b45 i5 X4 B4
  go_upto_region 7 with (first
    | (go_at_call 16; (refine iS.mono ?_); rintro q w6 ⟨rfl, b6⟩; have S6 := hid (Bx.new w6 ⟨#[]⟩ 0 ⟨#[]⟩ (.slice none 0 0)); unfold nv)
    | ((with_reducible show wpList _ _ _ (Oper.mk _ (Op.store 26 _ _) _ _ _ _ :: _) _ _); go_must (refine wpList_store_row rfl 26 _ _ rfl w6.heap.size _ rfl rfl 26 _ S6.out (sizeNt22 _ _ _ _) rfl (oneNt22 _ _ _ _ _ _) ?_)))
  have N6 := nb_new w6 ⟨#[]⟩ 0 ⟨#[]⟩ (.slice none 0 0)
  obtain ⟨W6, hW6⟩ : ∃ W6, (w6.alloc (.cells #[.string ⟨#[]⟩, .int .i64 0, .string ⟨#[]⟩, .slice none 0 0] 26)).setRow w6.heap.size #[.string ⟨#[]⟩, .int .i64 0, .string ⟨#[]⟩, .slice none 0 0] = W6 := ⟨_, rfl⟩
  rw [hW6] at N6 ⊢
  have b56 := b6.trans (N6.1.mono b6.size)
  have B6 := hid (B5.out.trans (b56.mono B5.out.size))
  have X6 := X5.out.below b56
  have iC := i6.out W6 B6.out
  obtain ⟨p0, p1, p2, p3⟩ := CS.out W6 B6.out
  have r0 := X6.c0
  have r1 := X6.c1
  have r2 := X6.c2
  clear iS b6 hW6 S6 N6 b56 i6 X6 B5 X5 CS
  go_wp2_with (go_at_call 17; (refine iC.mono ?_); rintro q w7 ⟨rfl, b7⟩)
  go_ret
  exact ⟨rfl, BW.out.trans ((B6.out.trans (b7.mono B6.out.size)).mono BW.out.size)⟩
end Nt
end Go.Proofs.YtdbbemcddhgbcaaGreatDoor

/- Layer 22, NoteParses: sizes; a byte of a text is another one -/
namespace Go.Proofs.YtdbbemcddhgbcaaGreatDoor
open Go.RowKit Go.Shelf
namespace Nt
theorem flat_few {S : List Sg} {f : Sg → List UInt8} {m : Nat} (h : ∀ x ∈ S, (f x).length ≤ m) : ((S.map f).flatten).length ≤ S.length * m := by
  induction S with
  | nil => simp
  | cons x S ih =>
    rw [List.map_cons, List.flatten_cons, List.length_append, List.length_cons, Nat.add_mul]
    have h1 := h x List.mem_cons_self
    have h2 := ih fun y hy => h y (List.mem_cons_of_mem _ hy)
    omega
theorem ntT_few {O R : ByteArray} {z : Int} {S : List Sg} (hO : O.size ≤ 32) (hR : R.size = 32) (hz : 0 ≤ z ∧ z < 1099511627777) (hL : S.length ≤ 16) (hS : ∀ x ∈ S, x.1.size ≤ 32 ∧ x.2.size ≤ 6000) : 0 < (ntT O z R S).size ∧ (ntT O z R S).size ≤ 150000 := by
  have e : (ntT O z R S).size = (bdT O z R).data.toList.length + 1 + ((S.map fun x => (sgL x).data.toList).flatten).length := by
    unfold ntT
    rw [show ∀ l : List UInt8, (⟨l.toArray⟩ : ByteArray).size = l.length from fun l => List.size_toArray]
    rw [List.length_append, List.length_append]
    rfl
  have h1 : (bdT O z R).data.toList.length ≤ 3 * (44 + 1) := by
    unfold bdT
    exact lnL_len [O, iT z, bT R] 44 (fun x hx => by
      simp only [List.mem_cons, List.not_mem_nil, or_false] at hx
      rcases hx with rfl | rfl | rfl
      · omega
      · have := iT_size z (by omega) (by omega); omega
      · rw [bT_size, hR]; decide)
  have h2 : ((S.map fun x => (sgL x).data.toList).flatten).length ≤ S.length * 8040 := flat_few fun x hx => by
    have h3 := hS x hx
    have h4 : (lnL [sgT x]).length ≤ 1 * (8039 + 1) := lnL_len [sgT x] 8039 (fun y hy => by
      rw [List.mem_singleton] at hy
      subst hy
      unfold sgT
      rw [ByteArray.size_append, ByteArray.size_append, ByteArray.size_append, bT_size]
      have e2 : (⟨#[45, 32]⟩ : ByteArray).size = 2 := rfl
      have e3 : (⟨#[32]⟩ : ByteArray).size = 1 := rfl
      omega)
    unfold sgL
    exact h4
  omega
theorem prtA_fit {O R : ByteArray} {z : Int} {S : List Sg} (hO : nmB O.data.toList = true) (hR : R.size = 32) (hz : 0 ≤ z ∧ z < 1099511627777) (hL : S.length ≤ 16) (hS : allOk S = true) : prtA O z R S = (ntT O z R S, 0) := by
  have hb : bdB O z R = true := by
    unfold bdB
    rw [hO, decide_eq_true (show 0 ≤ z ∧ z ≤ 1099511627776 by omega), decide_eq_true hR]
    rfl
  have hw : wrongN O z R S = 0 := by
    unfold wrongN
    rw [if_pos hb, if_pos hL, if_pos hS]
  unfold prtA
  rw [if_pos hw]
def byte22 (z : Int) : UInt8 := UInt8.ofNat (z % 256).toNat
theorem byte22_wrap (z : Int) : IntKind.u8.wrap z = ((byte22 z).toNat : Int) := by
  rw [IntKind.wrap_u8']; unfold byte22; simp; omega
theorem own_set22 {w : World} {base g cap : Nat} {cs : List Value} (h : Own w base (.slice (some ⟨g, 0, none⟩) cs.length cap) cs) (k : Nat) (hk : k < cs.length) (x : Value) :
    Own (w.setCell ⟨g, k, none⟩ x) base (.slice (some ⟨g, 0, none⟩) (cs.set k x).length cap) (cs.set k x) ∧ (∃ u, w.cell? ⟨g, k, none⟩ = some u) ∧ w.frozen? ⟨g, k, none⟩ = false ∧ base ≤ g := by
  rcases h with ⟨h, _⟩ | ⟨g', cap', h, h1, h2, h3, h4, h5, h6⟩
  · cases h
  · injection h with e1 e2 e3
    injection e1 with e1
    injection e1 with e1
    subst e1 e3
    have hu := h5 k (by omega)
    rw [Nat.zero_add] at hu
    refine ⟨.inr ⟨g, cap, rfl, h1, by rw [List.length_set]; exact h2, h3, fun j v hv => ?_, fun j hj => ?_, by simpa [World.setCell] using h6⟩, Option.isSome_iff_exists.1 hu.1, hu.2, h1⟩
    · rw [Nat.zero_add]
      rw [List.getElem?_set] at hv
      split at hv
      · rename_i e
        subst e
        first
          | (cases hv; exact World.cell?_setCell_same' _ _ _ hu.1)
          | (split at hv <;> cases hv; exact World.cell?_setCell_same' _ _ _ hu.1)
      · rename_i e
        have := h4 j v hv
        rw [Nat.zero_add] at this
        exact (World.cell?_setCell_other _ _ _ _ (by intro h; injection h; omega)).trans this
    · have := h5 j hj
      refine ⟨World.isSome_setCells g [x] k w _ this.1, ?_⟩
      rw [World.frozen?_setCell]
      exact this.2
theorem flip_run (w : World) (t : ByteArray) (hs : t.size ≤ 1900000) (k : Nat) (hk : k < t.size) (b : Int) :
    ∃ g cap w1 T2, (convert 9 43 (.string t)).run Tryz.prog w = .ok (.slice (some ⟨g, 0, none⟩) t.size cap) w1 ∧ (∃ u, w1.cell? ⟨g, k, none⟩ = some u) ∧ w1.frozen? ⟨g, k, none⟩ = false ∧
      (convert 43 9 (.slice (some ⟨g, 0, none⟩) t.size cap)).run Tryz.prog (w1.setCell ⟨g, k, none⟩ (.int .u8 (IntKind.u8.wrap b))) = .ok (.string T2) (w1.setCell ⟨g, k, none⟩ (.int .u8 (IntKind.u8.wrap b))) ∧ T2.size = t.size ∧ Below w.heap.size w (w1.setCell ⟨g, k, none⟩ (.int .u8 (IntKind.u8.wrap b))) := by
  obtain ⟨v', w1, r1, o1, b1⟩ := conv_bytes w t (Nat.le_trans hs (by rw [maxLen]; decide))
  have hl : (bv t.data.toList).length = t.size := by rw [bv_length]; exact dlen t
  obtain ⟨a, cap, hv⟩ := Own.shape o1
  subst hv
  obtain ⟨g, rfl⟩ : ∃ g, a = some ⟨g, 0, none⟩ := by
    rcases o1 with ⟨_, h⟩ | ⟨g, c, h, _⟩
    · rw [h] at hl; simp at hl; omega
    · injection h with h; exact ⟨g, h⟩
  obtain ⟨o2, hu, hf, hg⟩ := own_set22 o1 k (by rw [hl]; exact hk) (.int .u8 (IntKind.u8.wrap b))
  have e : (bv t.data.toList).set k (.int .u8 (IntKind.u8.wrap b)) = bv (t.data.toList.set k (byte22 b)) := by
    rw [byte22_wrap]
    unfold bv
    rw [List.map_set]
  rw [e] at o2
  have r2 := conv_own o2 (by intro h; cases h)
  have hl2 : (bv (t.data.toList.set k (byte22 b))).length = t.size := by rw [bv_length, List.length_set]; exact dlen t
  rw [hl] at r1
  rw [hl2] at r2
  exact ⟨g, cap, w1, _, r1, hu, hf, r2, by show (t.data.toList.set k (byte22 b)).toArray.size = _; rw [List.size_toArray, List.length_set]; exact dlen t, b1.setCell hg _⟩
end Nt
end Go.Proofs.YtdbbemcddhgbcaaGreatDoor
