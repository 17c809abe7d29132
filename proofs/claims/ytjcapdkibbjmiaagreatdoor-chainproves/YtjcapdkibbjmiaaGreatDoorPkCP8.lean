import Derived.Test.YtjcapdkibbjmiaaGreatDoorPkCP6
import Derived.Laws.ResultCell
namespace Go.Proofs.YtjcapdkibbjmiaaGreatDoor
open Go.RowKit Go.Shelf
namespace Chn
theorem results_rowC_tmp {P : Program} {fn : Func} {p u : Tmp} {ty : TypeId} (h : fn.results = #[.cell p ty, .tmp u]) (tmps : Array Value) (w : World) (g : Nat) (t : TypeId) (cs : Array Value) (fr : Nat × Nat) (d : TypeDesc)
    (hp : tmps.getD p undef = .pointer (some ⟨g, 0, none⟩)) (hg : w.heap[g]? = some (.cells cs t fr))
    (hu : P.underlying ty = some d) (hd : (match d with | .struct _ | .array _ _ => true | _ => false) = true) (hi : (P.info? ty).map (·.size) = some cs.size) :
    (results fn tmps).run P w = .ok (.tuple #[.agg cs, tmps.getD u undef]) w := by
  rw [results_cell_tmp h, hp]
  simp [asAddr, run_loadVar_row w g t ty cs fr d hg hu hd hi, Result.andThen]
theorem nen_txC (x : Addr) (n c : Nat) (w : World) : (binOp .eql 22 (.slice (some x) n c) (.slice none 0 0)).run Tryz.prog w = .ok (.bool false) w := by kernel_rfl
theorem een_txC (n c : Nat) (w : World) : (binOp .eql 22 (.slice none n c) (.slice none 0 0)).run Tryz.prog w = .ok (.bool true) w := by kernel_rfl
theorem own_emptyC (w : World) : OwnM 1 (w.alloc (.cells #[] 9)) (.slice (some ⟨w.heap.size, 0, none⟩) 0 0) 0 [] :=
  .inr ⟨w.heap.size, 0, rfl, Nat.le_refl _, by rw [maxLen]; omega, rfl, (fun j v hv => by simp at hv), (fun j hj => by omega), by simp⟩
set_option maxRecDepth 100000 in
set_option maxHeartbeats 4000000 in
theorem cloneT (a : Option Addr) (cap : Nat) (L : List (List UInt8)) (w : World) (hA : At w a L) (hlen : L.length ≤ 1000000) :
    Calls Tryz.prog 77 #[.slice a L.length cap] w fun r w' => ∃ v, r = .returned v ∧ OwnM 1 w' v L.length (svs L) ∧ (∀ k, v.ownBlock = some k → w.heap.size ≤ k) ∧ Below w.heap.size w w' := by
  cases a with
  | none =>
    have hL : L = [] := by
      cases L with
      | nil => rfl
      | cons x L =>
        obtain ⟨y, hy, _⟩ := hA 0 x rfl
        cases hy
    subst hL
    have he := een_txC 0 cap
    clear hA
    go_enter Tryz.func77, Tryz.ntmps77
    go_wp2
    go_ret
    exact ⟨_, rfl, OwnM.nil 1 _, (fun k hk => by cases hk), Below.refl _ _⟩
  | some x =>
    have b0 := (Below.refl w.heap.size w).alloc (Nat.le_refl _) (.cells #[] 9)
    obtain ⟨i0, hi, hz0, hz1, hz2⟩ := info_parts infoTx
    have hA0 : At _ (some x) L := hA.below b0 (Nat.le_refl _)
    have hsrc : Src Tryz.prog 1 22 (.slice (some x) L.length cap) L.length (svs L) (w.alloc (.cells #[] 9)) :=
      Src.ofSlice _ Tryz.underlying22 x L.length cap (svs L) (by rw [svs_length, Nat.mul_one]) (fun j u hj => by
        simp only [svs, List.getElem?_map, Option.map_eq_some_iff] at hj
        obtain ⟨p, hp, rfl⟩ := hj
        obtain ⟨y, hy, _, hc⟩ := hA0 j p hp
        obtain rfl := Option.some.inj hy
        exact hc) (fun u hu => by obtain ⟨p, _, rfl⟩ := List.mem_map.1 hu; rfl)
    obtain ⟨v', w', hap, hO, hG⟩ := run_append_M (P := Tryz.prog) _ 22 22 22 9 i0 (.string ⟨#[]⟩) Tryz.underlying22 hi hz0 hz1 rfl _ 0 [] (own_emptyC w) _ L.length (svs L) hsrc
      (by rw [hz2]; omega) (by rw [maxLen]; omega) (fun e => by cases e)
    rw [Nat.zero_add, List.nil_append] at hO
    have hne := nen_txC x L.length cap
    have HO := hid hO
    have HV : Hid (∀ k, v'.ownBlock = some k → w.heap.size ≤ k) := fun k hk => by
      rcases Grow.alt' hG k hk with e | e
      · have : some w.heap.size = some k := e
        have := Option.some.inj this
        omega
      · rw [size_alloc] at e; omega
    have HB : Hid (Below w.heap.size w w') := b0.trans (keep_belowC hG.keep (by simp) fun k e => by
      have : some w.heap.size = some k := e
      have := Option.some.inj this
      omega)
    generalize L.length = m at *
    clear hA hO hG b0 hA0 hsrc
    go_enter Tryz.func77, Tryz.ntmps77
    go_wp2_with (at_builtin; go_must (refine Lib.wpList_append_run _ rfl _ _ 22 22 rfl _ _ rfl rfl _ _ hap ?_))
    go_ret
    exact ⟨_, rfl, HO.out, HV.out, HB.out⟩
abbrev ch (a b : Value) : Value := .agg #[a, b]
def ChI (w : World) (g : Nat) (a b : Value) : Prop := w.heap[g]? = some (.cells #[a, b] 45 (0, 0))
theorem ChI.c0 {w : World} {g : Nat} {a b : Value} (h : ChI w g a b) : w.cell? ⟨g, 0, none⟩ = some a := by rw [cell_of_row w g 0 _ _ _ h]; rfl
theorem ChI.c1 {w : World} {g : Nat} {a b : Value} (h : ChI w g a b) : w.cell? ⟨g, 1, none⟩ = some b := by rw [cell_of_row w g 1 _ _ _ h]; rfl
theorem ChI.new (w : World) (a b : Value) : ChI (w.alloc (.cells #[a, b] 45)) w.heap.size a b := heap_alloc_new w _
theorem ChI.below {w w' : World} {g : Nat} {a b : Value} (h : ChI w g a b) (hb : Below w.heap.size w w') : ChI w' g a b := (hb.block g (lt_of_heap h)).trans h
def Kz (w : World) (g : Nat) : Prop := w.heap[g]? = some (.cells #[.slice none 0 0, .map none, .slice none 0 0] 92 (0, 0))
theorem Kz.below {w w' : World} {g : Nat} (h : Kz w g) (hb : Below w.heap.size w w') : Kz w' g := (hb.block g (lt_of_heap h)).trans h
theorem sizeKn (a b c : Value) : (Tryz.prog.info? 92).map (·.size) = some #[a, b, c].size := by kernel_rfl
def exE (cs : List Int) (H : List (List UInt8)) : Int := if mayB cs = true then (if H.length = (told (cs.map Int.toNat)).length ∧ hsB8 H = true then 0 else 131) else 130
theorem ix_toN (hs : List Nat) : (ix hs).map Int.toNat = hs := by
  unfold ix
  rw [List.map_map]
  exact List.map_id'' (fun i => Int.toNat_natCast i) hs
theorem Kz.set {w : World} {g : Nat} (h : Kz w g) : Kz (((w.setCell ⟨g, 0, none⟩ (.slice none 0 0)).setCell ⟨g, 1, none⟩ (.map none)).setCell ⟨g, 2, none⟩ (.slice none 0 0)) g := by
  have := heap_setCell_same _ g 2 _ _ (.slice none 0 0) (heap_setCell_same _ g 1 _ _ (.map none) (heap_setCell_same w g 0 _ _ (.slice none 0 0) h))
  exact this
theorem two_new (w : World) (A B : Value) : Hid (Kz ((w.alloc (.cells #[A, B] 45)).alloc (.cells #[.slice none 0 0, .map none, .slice none 0 0] 92)) (w.heap.size + 1)) := by
  have := heap_alloc_new (w.alloc (.cells #[A, B] 45)) (.cells #[.slice none 0 0, .map none, .slice none 0 0] 92)
  rw [size_alloc] at this
  exact this
set_option maxRecDepth 100000 in
set_option maxHeartbeats 2000000 in
theorem knownOf_no (cs : List Int) (m k : Nat) (hm : Hid (cs.length = m)) (ac ah : Option Addr) (cc chp : Nat) (w : World) (hA : AtI w ac cs) (lc : m ≤ 9223372036854775807) (he : mayB cs = false) :
    Calls Tryz.prog 50 #[ch (.slice ac m cc) (.slice ah k chp)] w fun r w' => r = .returned (.tuple #[.agg #[.slice none 0 0, .map none, .slice none 0 0], .int .i64 130]) ∧ Below w.heap.size w w' := by
  have s0 := ChI.new w (.slice ac m cc) (.slice ah k chp)
  have b0 := ((Below.refl w.heap.size w).alloc (Nat.le_refl _) (.cells #[.slice ac m cc, .slice ah k chp] 45)).alloc (by simp) (.cells #[.slice none 0 0, .map none, .slice none 0 0] 92)
  have S1 := hid (s0.below ((Below.refl _ _).alloc (Nat.le_refl _) (.cells #[.slice none 0 0, .map none, .slice none 0 0] 92)))
  have kz := two_new w (.slice ac m cc) (.slice ah k chp)
  have B0 := hid b0
  have c0 := S1.out.c0
  have i1 := mayBe_any cs ac cc ((w.alloc (.cells #[.slice ac m cc, .slice ah k chp] 45)).alloc (.cells #[.slice none 0 0, .map none, .slice none 0 0] 92)) (by rw [hm.out]; exact lc) (hA.below b0 (Nat.le_refl _))
  rw [he, hm.out] at i1
  have eE := hid (rfl : (130 : Int) = 130)
  clear hA b0 s0 he hm
  go_enter Tryz.func50, Tryz.ntmps50
  go_wp2_with (go_at_call 48; refine i1.mono ?_; rintro r w1 ⟨rfl, b1⟩; have B1 := hid (B0.out.trans (b1.mono B0.out.size)); have K1 := hid (kz.out.below b1); have C1 := hid (S1.out.below b1); have c1 := C1.out.c0; clear b1; have k0 : w1.cell? ⟨w.heap.size + 1, 0, none⟩ = some (.slice none 0 0) := (cell_of_row _ _ _ _ _ _ K1.out).trans rfl; have k1 : w1.cell? ⟨w.heap.size + 1, 1, none⟩ = some (.map none) := (cell_of_row _ _ _ _ _ _ K1.out).trans rfl; have k2 : w1.cell? ⟨w.heap.size + 1, 2, none⟩ = some (.slice none 0 0) := (cell_of_row _ _ _ _ _ _ K1.out).trans rfl; have l0 := frozen_of_row _ _ 0 _ _ K1.out; have l1 := frozen_of_row _ _ 1 _ _ K1.out; have l2 := frozen_of_row _ _ 2 _ _ K1.out)
  refine bodyPost_ret (results_rowC_tmp rfl _ _ (w.heap.size + 1) 92 _ (0, 0) _ rfl K1.out.set Tryz.underlying92 rfl (sizeKn _ _ _)) rfl ⟨rfl, ?_⟩
  exact Below.setCell (p := ⟨w.heap.size + 1, 2, none⟩) (Below.setCell (p := ⟨w.heap.size + 1, 1, none⟩) (Below.setCell (p := ⟨w.heap.size + 1, 0, none⟩) B1.out (by show w.heap.size ≤ w.heap.size + 1; omega) _) (by show w.heap.size ≤ w.heap.size + 1; omega) _) (by show w.heap.size ≤ w.heap.size + 1; omega) _
set_option maxRecDepth 100000 in
set_option maxHeartbeats 2000000 in
theorem knownOf_form (hs : List Nat) (HH : Hds hs) (H : List (List UInt8)) (m k t : Nat) (hm : Hid (hs.length = m)) (hk : Hid (H.length = k)) (HT : Hid ((told hs).length = t)) (ac ah : Option Addr) (cc chp : Nat) (w : World) (hA : AtI w ac (ix hs)) (hAh : At w ah H) (lh : k ≤ 9223372036854775807) (he : ¬ (k = t ∧ hsB8 H = true)) :
    Calls Tryz.prog 50 #[ch (.slice ac m cc) (.slice ah k chp)] w fun r w' => r = .returned (.tuple #[.agg #[.slice none 0 0, .map none, .slice none 0 0], .int .i64 131]) ∧ Below w.heap.size w w' := by
  have s0 := ChI.new w (.slice ac m cc) (.slice ah k chp)
  have b0 := ((Below.refl w.heap.size w).alloc (Nat.le_refl _) (.cells #[.slice ac m cc, .slice ah k chp] 45)).alloc (by simp) (.cells #[.slice none 0 0, .map none, .slice none 0 0] 92)
  have S1 := hid (s0.below ((Below.refl _ _).alloc (Nat.le_refl _) (.cells #[.slice none 0 0, .map none, .slice none 0 0] 92)))
  have kz := two_new w (.slice ac m cc) (.slice ah k chp)
  have B0 := hid b0
  have c0 := S1.out.c0
  have hxl : (ix hs).length = m := by rw [← hm.out]; simp [ix]
  have lm : m ≤ 64 := by rw [← hm.out]; exact HH.le
  have i1 := mayBe_any (ix hs) ac cc ((w.alloc (.cells #[.slice ac m cc, .slice ah k chp] 45)).alloc (.cells #[.slice none 0 0, .map none, .slice none 0 0] 92)) (by rw [hxl]; omega) (hA.below b0 (Nat.le_refl _))
  rw [hds_mayB HH, hxl] at i1
  have i2 := fun w' (bb : Below w.heap.size w w') => toldOf_any hs HH ac cc w' (hA.below bb (Nat.le_refl _))
  rw [hm.out] at i2
  have eE := hid (rfl : (131 : Int) = 131)
  by_cases hl : k = t
  · have hq : hsB8 H = false := by
      cases hc : hsB8 H with
      | false => rfl
      | true => exact absurd ⟨hl, hc⟩ he
    have i3 := fun w' (bb : Below w.heap.size w w') => areHashes13_is H false hq ah chp w' (by rw [hk.out]; exact lh) (hAh.below bb (Nat.le_refl _))
    rw [hk.out] at i3
    subst hl
    have z0 : ((k : Int) != (k : Int)) = false := by simp
    have z1 : ((k : Int) == (k : Int)) = true := by simp
    clear hA hAh b0 s0 he hm hk hq hxl lm
    go_enter Tryz.func50, Tryz.ntmps50
    go_wp2_with (first
      | (go_at_call 48; refine i1.mono ?_; rintro r w1 ⟨rfl, b1⟩; have B1 := hid (B0.out.trans (b1.mono B0.out.size)); have K1 := hid (kz.out.below b1); have C1 := hid (S1.out.below b1); have c1 := C1.out.c0; clear b1)
      | (go_at_call 49; refine (i2 _ B1.out).mono ?_; rintro r w2 ⟨v, b, rfl, tv, hb, hv, b2⟩; have bA := (Below.refl w2.heap.size w2).alloc (Nat.le_refl _) (.cells #[v, .map (some b)] 89); obtain ⟨va, vc, hva, _, _⟩ := tv.own.shape; have b3 := b2.trans (bA.mono b2.size); have B3 := hid (B1.out.trans (b3.mono B1.out.size)); have K3 := hid (K1.out.below b3); have C3 := hid (C1.out.below b3); have c3 := C3.out.c1; have TV := hid tv; have HV := hid hv; have HBA := hid bA; rw [HT.out] at hva; subst hva; have zq := Nat.lt_of_lt_of_le (lt_of_heap K1.out) b2.size; have zp := hid B1.out.size; have K2 := hid (K1.out.below b2); have B2 := hid (B1.out.trans (b2.mono B1.out.size)); have zh := hid hb; clear tv hv b2 bA b3)
      | (go_at_call 52; refine (i3 _ B3.out).mono ?_; rintro r w4 ⟨rfl, hw4⟩; have hw4 := hw4.symm; subst hw4; have k0 : w2.cell? ⟨w.heap.size + 1, 0, none⟩ = some (.slice none 0 0) := (cell_of_row _ _ _ _ _ _ K2.out).trans rfl; have k1 : w2.cell? ⟨w.heap.size + 1, 1, none⟩ = some (.map none) := (cell_of_row _ _ _ _ _ _ K2.out).trans rfl; have k2 : w2.cell? ⟨w.heap.size + 1, 2, none⟩ = some (.slice none 0 0) := (cell_of_row _ _ _ _ _ _ K2.out).trans rfl; have l0 := frozen_of_row _ _ 0 _ _ K2.out; have l1 := frozen_of_row _ _ 1 _ _ K2.out; have l2 := frozen_of_row _ _ 2 _ _ K2.out; have zn : ¬ w.heap.size + 1 = w2.heap.size := (by omega); have zn2 : ¬ w2.heap.size = w.heap.size + 1 := (by omega)))
    have b9 := (Below.setCell (p := ⟨w.heap.size + 1, 2, none⟩) (Below.setCell (p := ⟨w.heap.size + 1, 1, none⟩) (Below.setCell (p := ⟨w.heap.size + 1, 0, none⟩) B2.out (by show w.heap.size ≤ w.heap.size + 1; omega) (.slice none 0 0)) (by show w.heap.size ≤ w.heap.size + 1; omega) (.map none)) (by show w.heap.size ≤ w.heap.size + 1; omega) (.slice none 0 0))
    refine bodyPost_ret (results_rowC_tmp rfl _ _ (w.heap.size + 1) 92 _ (0, 0) _ rfl (K2.out.set.below ((Below.refl _ _).alloc (Nat.le_refl _) _)) Tryz.underlying92 rfl (sizeKn _ _ _)) rfl ⟨rfl, ?_⟩
    exact b9.alloc b9.size _
  · have z0 : ((k : Int) != (t : Int)) = true := by simp; omega
    have z1 : ((k : Int) == (t : Int)) = false := by simp; omega
    have z2 : ¬ (k : Int) = (t : Int) := by omega
    clear hA hAh b0 s0 he hm hk hxl lm
    go_enter Tryz.func50, Tryz.ntmps50
    go_wp2_with (first
      | (go_at_call 48; refine i1.mono ?_; rintro r w1 ⟨rfl, b1⟩; have B1 := hid (B0.out.trans (b1.mono B0.out.size)); have K1 := hid (kz.out.below b1); have C1 := hid (S1.out.below b1); have c1 := C1.out.c0; clear b1)
      | (go_at_call 49; refine (i2 _ B1.out).mono ?_; rintro r w2 ⟨v, b, rfl, tv, hb, hv, b2⟩; have bA := (Below.refl w2.heap.size w2).alloc (Nat.le_refl _) (.cells #[v, .map (some b)] 89); obtain ⟨va, vc, hva, _, _⟩ := tv.own.shape; have b3 := b2.trans (bA.mono b2.size); have B3 := hid (B1.out.trans (b3.mono B1.out.size)); have K3 := hid (K1.out.below b3); have C3 := hid (C1.out.below b3); have c3 := C3.out.c1; have TV := hid tv; have HV := hid hv; have HBA := hid bA; rw [HT.out] at hva; subst hva; have zq := Nat.lt_of_lt_of_le (lt_of_heap K1.out) b2.size; have zp := hid B1.out.size; have K2 := hid (K1.out.below b2); have B2 := hid (B1.out.trans (b2.mono B1.out.size)); have zh := hid hb; clear tv hv b2 bA b3; have k0 : w2.cell? ⟨w.heap.size + 1, 0, none⟩ = some (.slice none 0 0) := (cell_of_row _ _ _ _ _ _ K2.out).trans rfl; have k1 : w2.cell? ⟨w.heap.size + 1, 1, none⟩ = some (.map none) := (cell_of_row _ _ _ _ _ _ K2.out).trans rfl; have k2 : w2.cell? ⟨w.heap.size + 1, 2, none⟩ = some (.slice none 0 0) := (cell_of_row _ _ _ _ _ _ K2.out).trans rfl; have l0 := frozen_of_row _ _ 0 _ _ K2.out; have l1 := frozen_of_row _ _ 1 _ _ K2.out; have l2 := frozen_of_row _ _ 2 _ _ K2.out; have zn : ¬ w.heap.size + 1 = w2.heap.size := (by omega); have zn2 : ¬ w2.heap.size = w.heap.size + 1 := (by omega)))
    have b9 := (Below.setCell (p := ⟨w.heap.size + 1, 2, none⟩) (Below.setCell (p := ⟨w.heap.size + 1, 1, none⟩) (Below.setCell (p := ⟨w.heap.size + 1, 0, none⟩) B2.out (by show w.heap.size ≤ w.heap.size + 1; omega) (.slice none 0 0)) (by show w.heap.size ≤ w.heap.size + 1; omega) (.map none)) (by show w.heap.size ≤ w.heap.size + 1; omega) (.slice none 0 0))
    refine bodyPost_ret (results_rowC_tmp rfl _ _ (w.heap.size + 1) 92 _ (0, 0) _ rfl (K2.out.set.below ((Below.refl _ _).alloc (Nat.le_refl _) _)) Tryz.underlying92 rfl (sizeKn _ _ _)) rfl ⟨rfl, ?_⟩
    exact b9.alloc b9.size _
structure Kv (w w' : World) (b : Nat) (v h : Value) (K : List (Nat × Nat)) (H : List (List UInt8)) : Prop where
  tv : Tv w' b v K
  oh : OwnM 1 w' h H.length (svs H)
  b0 : w.heap.size ≤ b
  v0 : ∀ k, v.ownBlock = some k → w.heap.size ≤ k
  h0 : ∀ k, h.ownBlock = some k → w.heap.size ≤ k
  hb : h.ownBlock ≠ some b
  hv : ∀ k, h.ownBlock = some k → v.ownBlock ≠ some k
  bel : Below w.heap.size w w'
set_option maxRecDepth 100000 in
set_option maxHeartbeats 2000000 in
theorem knownOf_ok (hs : List Nat) (HH : Hds hs) (H : List (List UInt8)) (m k : Nat) (hm : Hid (hs.length = m)) (hk : Hid (H.length = k)) (HT : Hid ((told hs).length = k)) (ac ah : Option Addr) (cc chp : Nat) (w : World) (hA : AtI w ac (ix hs)) (hAh : At w ah H) (hq : hsB8 H = true) :
    Calls Tryz.prog 50 #[ch (.slice ac m cc) (.slice ah k chp)] w fun r w' => ∃ v b h, r = .returned (.tuple #[.agg #[v, .map (some b), h], .int .i64 0]) ∧ Kv w w' b v h (told hs) H := by
  have s0 := ChI.new w (.slice ac m cc) (.slice ah k chp)
  have b0 := ((Below.refl w.heap.size w).alloc (Nat.le_refl _) (.cells #[.slice ac m cc, .slice ah k chp] 45)).alloc (by simp) (.cells #[.slice none 0 0, .map none, .slice none 0 0] 92)
  have S1 := hid (s0.below ((Below.refl _ _).alloc (Nat.le_refl _) (.cells #[.slice none 0 0, .map none, .slice none 0 0] 92)))
  have kz := two_new w (.slice ac m cc) (.slice ah k chp)
  have B0 := hid b0
  have c0 := S1.out.c0
  have hxl : (ix hs).length = m := by rw [← hm.out]; simp [ix]
  have lm : m ≤ 64 := by rw [← hm.out]; exact HH.le
  have lk : k ≤ 2583 := by rw [← HT.out]; exact tol_few HH (by have := HH.ne; omega)
  have i1 := mayBe_any (ix hs) ac cc ((w.alloc (.cells #[.slice ac m cc, .slice ah k chp] 45)).alloc (.cells #[.slice none 0 0, .map none, .slice none 0 0] 92)) (by rw [hxl]; omega) (hA.below b0 (Nat.le_refl _))
  rw [hds_mayB HH, hxl] at i1
  have i2 := fun w' (bb : Below w.heap.size w w') => toldOf_any hs HH ac cc w' (hA.below bb (Nat.le_refl _))
  rw [hm.out] at i2
  have i3 := fun w' (bb : Below w.heap.size w w') => areHashes13_is H true hq ah chp w' (by rw [hk.out]; omega) (hAh.below bb (Nat.le_refl _))
  rw [hk.out] at i3
  have i4 := fun w' (bb : Below w.heap.size w w') => cloneT ah chp H w' (hAh.below bb (Nat.le_refl _)) (by rw [hk.out]; omega)
  rw [hk.out] at i4
  have z0 : ((k : Int) != (k : Int)) = false := by simp
  have z1 : ((k : Int) == (k : Int)) = true := by simp
  generalize told hs = TT at *
  clear hA hAh b0 s0 hm hq hxl lm
  go_enter Tryz.func50, Tryz.ntmps50
  go_wp2_with (first
    | (go_at_call 48; refine i1.mono ?_; rintro r w1 ⟨rfl, b1⟩; have B1 := hid (B0.out.trans (b1.mono B0.out.size)); have K1 := hid (kz.out.below b1); have C1 := hid (S1.out.below b1); have c1 := C1.out.c0; clear b1)
    | (go_at_call 49; refine (i2 _ B1.out).mono ?_; rintro r w2 ⟨v, b, rfl, tv, hb, hv, b2⟩; have bA := (Below.refl w2.heap.size w2).alloc (Nat.le_refl _) (.cells #[v, .map (some b)] 89); obtain ⟨va, vc, hva, _, _⟩ := tv.own.shape; have b3 := b2.trans (bA.mono b2.size); have B3 := hid (B1.out.trans (b3.mono B1.out.size)); have K3 := hid (K1.out.below b3); have C3 := hid (C1.out.below b3); have c3 := C3.out.c1; have TV := hid tv; have HV := hid hv; have HBA := hid bA; rw [HT.out] at hva; subst hva; have zq := Nat.lt_of_lt_of_le (lt_of_heap K1.out) b2.size; have zp := hid B1.out.size; have K2 := hid (K1.out.below b2); have B2 := hid (B1.out.trans (b2.mono B1.out.size)); have zh := hid hb; clear tv hv b2 bA b3)
    | (go_at_call 52; refine (i3 _ B3.out).mono ?_; rintro r w4 ⟨rfl, hw4⟩; have hw4 := hw4.symm; subst hw4))
  have R3 : Hid ((w2.alloc (.cells #[.slice va k vc, .map (some b)] 89)).heap[w2.heap.size]? = some (.cells #[.slice va k vc, .map (some b)] 89 (0, 0))) := heap_alloc_new w2 _
  have zb := TV.out.lt
  have T3 := hid (TV.out.below HBA.out)
  have zw := HBA.out.size
  generalize hw3 : (w2.alloc (.cells #[.slice va k vc, .map (some b)] 89)) = w3 at *
  have zs : w3.heap.size = w2.heap.size + 1 := by rw [← hw3]; simp
  have ZS := hid zs
  have fact : ∀ w', Below w3.heap.size w3 w' → w'.cell? ⟨w2.heap.size, 0, none⟩ = some (.slice va k vc) ∧ w'.cell? ⟨w2.heap.size, 1, none⟩ = some (.map (some b)) ∧ w'.cell? ⟨w.heap.size, 1, none⟩ = some (.slice ah k chp) := fun w' hb' => by
    have r3 := (hb'.block w2.heap.size (by omega)).trans R3.out
    refine ⟨?_, ?_, (C3.out.below hb').c1⟩
    · rw [cell_of_row _ _ _ _ _ _ r3]; rfl
    · rw [cell_of_row _ _ _ _ _ _ r3]; rfl
  have HF := hid fact
  have x0 := fact w3 (Below.refl _ _)
  clear fact hw3 zs
  have i5 := i4 w3.drew B3.out.drew
  clear i1 i2 i3 i4 c0 c1 c3
  go_region_held3 (fun w' => w'.cell? ⟨w2.heap.size, 0, none⟩ = some (.slice va k vc) ∧ w'.cell? ⟨w2.heap.size, 1, none⟩ = some (.map (some b)) ∧ w'.cell? ⟨w.heap.size, 1, none⟩ = some (.slice ah k chp)) (first | exact x1 | exact x0 | exact x2) (first | (go_at_call 77; refine i5.mono ?_; rintro r w4 ⟨h, rfl, oh, hn, b4⟩; have b4 := drewBelow8 b4; have x1 := HF.out _ b4; have K4 := hid (K3.out.below b4); have B4 := hid (B3.out.trans (b4.mono B3.out.size)); obtain ⟨ha, hc, hh, _, _⟩ := oh.shape; have OH := hid oh; have HN := hid hn; have T4 := hid (T3.out.below b4); have HB4 := hid b4; subst hh; have x2 := And.intro ((World.cell?_setCell_far _ ⟨w.heap.size + 1, 2, none⟩ ⟨w2.heap.size, 0, none⟩ (.slice ha k hc) (by show w.heap.size + 1 ≠ w2.heap.size; omega)).trans ((World.cell?_setCell_far _ ⟨w.heap.size + 1, 1, none⟩ ⟨w2.heap.size, 0, none⟩ (.map (some b)) (by show w.heap.size + 1 ≠ w2.heap.size; omega)).trans ((World.cell?_setCell_far w4 ⟨w.heap.size + 1, 0, none⟩ ⟨w2.heap.size, 0, none⟩ (.slice va k vc) (by show w.heap.size + 1 ≠ w2.heap.size; omega)).trans x1.1))) (And.intro ((World.cell?_setCell_far _ ⟨w.heap.size + 1, 2, none⟩ ⟨w2.heap.size, 1, none⟩ (.slice ha k hc) (by show w.heap.size + 1 ≠ w2.heap.size; omega)).trans ((World.cell?_setCell_far _ ⟨w.heap.size + 1, 1, none⟩ ⟨w2.heap.size, 1, none⟩ (.map (some b)) (by show w.heap.size + 1 ≠ w2.heap.size; omega)).trans ((World.cell?_setCell_far w4 ⟨w.heap.size + 1, 0, none⟩ ⟨w2.heap.size, 1, none⟩ (.slice va k vc) (by show w.heap.size + 1 ≠ w2.heap.size; omega)).trans x1.2.1))) ((World.cell?_setCell_far _ ⟨w.heap.size + 1, 2, none⟩ ⟨w.heap.size, 1, none⟩ (.slice ha k hc) (by show w.heap.size + 1 ≠ w.heap.size; omega)).trans ((World.cell?_setCell_far _ ⟨w.heap.size + 1, 1, none⟩ ⟨w.heap.size, 1, none⟩ (.map (some b)) (by show w.heap.size + 1 ≠ w.heap.size; omega)).trans ((World.cell?_setCell_far w4 ⟨w.heap.size + 1, 0, none⟩ ⟨w.heap.size, 1, none⟩ (.slice va k vc) (by show w.heap.size + 1 ≠ w.heap.size; omega)).trans x1.2.2)))); have k0 : w4.cell? ⟨w.heap.size + 1, 0, none⟩ = some (.slice none 0 0) := (cell_of_row _ _ _ _ _ _ K4.out).trans rfl; have k1 : w4.cell? ⟨w.heap.size + 1, 1, none⟩ = some (.map none) := (cell_of_row _ _ _ _ _ _ K4.out).trans rfl; have k2 : w4.cell? ⟨w.heap.size + 1, 2, none⟩ = some (.slice none 0 0) := (cell_of_row _ _ _ _ _ _ K4.out).trans rfl; have l0 := frozen_of_row _ _ 0 _ _ K4.out; have l1 := frozen_of_row _ _ 1 _ _ K4.out; have l2 := frozen_of_row _ _ 2 _ _ K4.out; clear oh hn b4))
  go_wp2
  have R5 := heap_setCell_same _ (w.heap.size + 1) 2 _ _ (.slice ha k hc) (heap_setCell_same _ (w.heap.size + 1) 1 _ _ (.map (some b)) (heap_setCell_same w4 (w.heap.size + 1) 0 _ _ (.slice va k vc) K4.out))
  have k9 : Keep (fun i => i = w.heap.size + 1) w4 (((w4.setCell ⟨w.heap.size + 1, 0, none⟩ (.slice va k vc)).setCell ⟨w.heap.size + 1, 1, none⟩ (.map (some b))).setCell ⟨w.heap.size + 1, 2, none⟩ (.slice ha k hc)) := ((Keep.ofSet (S := fun i => i = w.heap.size + 1) w4 (w.heap.size + 1) 0 (.slice va k vc) rfl).trans (Keep.ofSet (S := fun i => i = w.heap.size + 1) _ (w.heap.size + 1) 1 (.map (some b)) rfl) fun _ _ e => e).trans (Keep.ofSet (S := fun i => i = w.heap.size + 1) _ (w.heap.size + 1) 2 (.slice ha k hc) rfl) fun _ _ e => e
  have hv1 : ∀ i, (Value.slice va k vc).ownBlock = some i → w1.heap.size ≤ i ∧ i < w2.heap.size := fun i hi => ⟨HV.out i hi, TV.out.own.lt i hi⟩
  have zk1 := lt_of_heap K1.out
  have hzb := zh.out
  have zs := ZS.out
  have hn1 : ∀ i, (Value.slice ha k hc).ownBlock = some i → w3.heap.size ≤ i := HN.out
  have b9 : Below w.heap.size w (((w4.setCell ⟨w.heap.size + 1, 0, none⟩ (.slice va k vc)).setCell ⟨w.heap.size + 1, 1, none⟩ (.map (some b))).setCell ⟨w.heap.size + 1, 2, none⟩ (.slice ha k hc)) := B4.out.trans (keep_belowC k9 B4.out.size fun i e => by omega)
  obtain ⟨f, hf, hg⟩ := T4.out.mp
  refine bodyPost_ret (results_rowC_tmp rfl _ _ (w.heap.size + 1) 92 _ (0, 0) _ rfl R5 Tryz.underlying92 rfl (sizeKn _ _ _)) rfl ⟨_, _, _, rfl, ⟨⟨T4.out.own.keep k9 (fun i hi e => by have := hv1 i hi; omega), ⟨f, hf.keep k9 (fun e => by omega), hg⟩, T4.out.lo, T4.out.vb⟩, ?_, by have := zp.out; omega, ?_, ?_, ?_, ?_, b9⟩⟩
  · rw [hk.out]
    exact OH.out.keep k9 (fun i hi e => by have := hn1 i hi; omega)
  · intro i hi
    have := hv1 i hi
    have := zp.out
    omega
  · intro i hi
    have := hn1 i hi
    have := zp.out
    omega
  · intro e
    have := hn1 b e
    omega
  · intro i hi e
    have := hn1 i hi
    have := hv1 i e
    omega
end Chn
end Go.Proofs.YtjcapdkibbjmiaaGreatDoor
