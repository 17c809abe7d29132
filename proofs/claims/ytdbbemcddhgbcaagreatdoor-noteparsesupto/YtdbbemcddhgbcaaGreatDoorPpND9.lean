import Derived.Test.YtdbbemcddhgbcaaGreatDoorPpND7
import Derived.Deep.CutRange
/- Layer 22, the law: a note that may be, of a raw one (written by genND9.py) -/
namespace Go.Proofs.YtdbbemcddhgbcaaGreatDoor
open Go.RowKit Go.Shelf
namespace Nt
/-- which of n things -/
def pk22 (c n : Int) : Int := (if c < 0 then -(c + 1) else c) % n
theorem pk_nonneg22 (c n : Int) (hn : 0 < n) : 0 ≤ pk22 c n := Int.emod_nonneg _ (by omega)
theorem pk_lt22 (c n : Int) (hn : 0 < n) : pk22 c n < n := Int.emod_lt_of_pos _ hn
set_option maxRecDepth 100000 in
set_option maxHeartbeats 400000 in
theorem pick22_any (c n : Int) (hc1 : -9223372036854775808 ≤ c) (hc2 : c ≤ 9223372036854775807) (hn : 0 < n) (hn2 : n ≤ 9223372036854775807) (w : World) :
    Calls Tryz.prog 9 #[.int .i64 c, .int .i64 n] w fun e w' => e = .returned (.int .i64 (pk22 c n)) ∧ w' = w := by
  have hp0 := pk_nonneg22 c n hn
  have hp1 := pk_lt22 c n hn
  have hn0 : ¬ n = 0 := by omega
  by_cases h : c < 0
  · have e1 : IntKind.i64.wrap (c + 1) = c + 1 := by rw [IntKind.wrap_i64]; omega
    have e2 : IntKind.i64.wrap (-(c + 1)) = -(c + 1) := by rw [IntKind.wrap_i64]; omega
    have e3 : Int.tmod (-(c + 1)) n = pk22 c n := by rw [Int.tmod_eq_emod_of_nonneg (by omega), pk22, if_pos h]
    have e4 : IntKind.i64.wrap (pk22 c n) = pk22 c n := by rw [IntKind.wrap_i64]; omega
    go_enter Tryz.func9, Tryz.ntmps9
    go_wp2
    go_ret
    exact ⟨rfl, rfl⟩
  · have e3 : Int.tmod c n = pk22 c n := by rw [Int.tmod_eq_emod_of_nonneg (by omega), pk22, if_neg h]
    have e4 : IntKind.i64.wrap (pk22 c n) = pk22 c n := by rw [IntKind.wrap_i64]; omega
    go_enter Tryz.func9, Tryz.ntmps9
    go_wp2
    go_ret
    exact ⟨rfl, rfl⟩
theorem step_store_row22 {P : Program} {ops : Array Oper} {o : Oper} {a : Act} {w : World} {K : Act → World → Prop} {Q : Exit → Act → World → Prop} {E : Prop}
    (hgd : o.guard = none) (ty : TypeId) (x y : Operand) (ho : o.op = .store ty x y) (g : Nat) (cells : Array Value) (hx : a.eval x = .pointer (some ⟨g, 0, none⟩)) (hy : a.eval y = .agg cells)
    (t : TypeId) (old : Array Value) (hg : w.heap[g]? = some (.cells old t (0, 0))) (hi : (P.info? ty).map (·.size) = some cells.size)
    (hold : old.size = cells.size) (h1 : cells.all (·.oneCell') = true) (hK : K (a.put o.dst undef) (w.setRow g cells)) :
    if Region.wanted o (yielded ops a.tmps) = true then Oper.wp P o a w K Q else E := by
  have hw : Region.wanted o (yielded ops a.tmps) = true := by simp [Region.wanted, hgd]
  rw [if_pos hw]
  exact wp_store_row ty x y ho g cells hx hy t old hg hi hold h1 hK
theorem sizeSg22 (a b : Value) : (Tryz.prog.info? 32).map (·.size) = some #[a, b].size := infoSg2
theorem oneSg22 (a b : ByteArray) : (#[Value.string a, .string b].all (·.oneCell')) = true := all_oneCell_toArray (cs := [Value.string a, .string b]) fun v hv => by
  simp only [List.mem_cons, List.not_mem_nil, or_false] at hv
  rcases hv with rfl | rfl <;> rfl
/-- a signature in a box -/
def Gx (w : World) (g : Nat) (X Y : ByteArray) : Prop := w.heap[g]? = some (.cells #[.string X, .string Y] 32 (0, 0))
theorem Gx.new (w : World) (X Y : ByteArray) : Gx (w.alloc (.cells #[.string X, .string Y] 32)) w.heap.size X Y := heap_alloc_new w _
theorem Gx.below {w w' : World} {g : Nat} {X Y : ByteArray} (h : Gx w g X Y) (hb : Below w.heap.size w w') : Gx w' g X Y := (hb.block g (lt_of_heap h)).trans h
theorem Gx.c0 {w : World} {g : Nat} {X Y : ByteArray} (h : Gx w g X Y) : w.cell? ⟨g, 0, none⟩ = some (.string X) := by rw [cell_of_row w g 0 _ _ _ h]; rfl
theorem Gx.c1 {w : World} {g : Nat} {X Y : ByteArray} (h : Gx w g X Y) : w.cell? ⟨g, 1, none⟩ = some (.string Y) := by rw [cell_of_row w g 1 _ _ _ h]; rfl
theorem Gx.set1 {w : World} {g : Nat} {X Y : ByteArray} (h : Gx w g X Y) (Z : ByteArray) : Gx (w.setCell ⟨g, 1, none⟩ (.string Z)) g X Z := by
  have e := setCell_eq_setRow w g 1 _ 32 (0, 0) (.string Z) h
  unfold Gx
  rw [e]
  exact setRow_heap _ _ _ _ _ _ h
/-- what stands while the list grows -/
structure Fp (W : World) (g3 : Nat) (N : ByteArray) (z' : Int) (D : ByteArray) (v : Value) (L : List Sg) (w' : World) : Prop where
  b : Below W.heap.size W w'
  x3 : Bx w' g3 N z' D v
  own : Wz.OwnM 2 w' v L.length (sgs L)
  fr : ∀ k, v.ownBlock = some k → g3 < k
  len : L.length ≤ 16
  sz : ∀ x ∈ L, x.1.size ≤ 32 ∧ x.2.size ≤ 6000
  ok : allOk L = true
theorem Fp.below {W w' w2 : World} {g3 : Nat} {N D : ByteArray} {z' : Int} {v : Value} {L : List Sg} (h : Fp W g3 N z' D v L w') (hb : Below w'.heap.size w' w2) : Fp W g3 N z' D v L w2 := ⟨h.b.trans (hb.mono h.b.size), h.x3.below hb, h.own.below hb, h.fr, h.len, h.sz, h.ok⟩
theorem Fp.drewN {W w' : World} {g3 : Nat} {N D : ByteArray} {z' : Int} {v : Value} {L : List Sg} (h : Fp W g3 N z' D v L w') (m : Nat) : Fp W g3 N z' D v L (w'.drewN m) := ⟨bw_drewN h.b m, h.x3, h.own, h.fr, h.len, h.sz, h.ok⟩
theorem AtF.drop22 {w : World} {gb : Nat} {L : List Sg} (h : AtF w (some ⟨gb, 0, none⟩) L) (k : Nat) : AtF w (some ⟨gb, k * 2, none⟩) (L.drop k) := fun i v hv => by
  by_cases hk : k ≤ L.length
  · have e : sgs L = sgs (L.take k) ++ sgs (L.drop k) := by rw [← sgs_app, List.take_append_drop]
    have hl : (sgs (L.take k)).length = k * 2 := by rw [sgs_len, List.length_take]; omega
    obtain ⟨p, e1, h1, h2⟩ := h (k * 2 + i) v (by rw [e, List.getElem?_append_right (by omega), hl, Nat.add_sub_cancel_left]; exact hv)
    obtain rfl := Option.some.inj e1
    refine ⟨_, rfl, h1, ?_⟩
    rw [Addr.add_mid] at h2 ⊢
    simpa using h2
  · rw [List.drop_eq_nil_of_le (by omega)] at hv
    simp [sgs] at hv
theorem Fp.ins {W w6 w9 : World} {g3 : Nat} {N D : ByteArray} {z' : Int} {v v' : Value} {L L' : List Sg} (h : Fp W g3 N z' D v L w6) (hg : W.heap.size ≤ g3) (B9 : Below w6.heap.size w6 w9) (o9 : Wz.OwnM 2 w9 v' L'.length (sgs L')) (f9 : ∀ q, v'.ownBlock = some q → w6.heap.size ≤ q) (hl : L'.length ≤ 16) (hs : ∀ x ∈ L', x.1.size ≤ 32 ∧ x.2.size ≤ 6000) (ho : allOk L' = true) : Fp W g3 N z' D v' L' (w9.setCell ⟨g3, 3, none⟩ v') := by
  have x9 := h.x3.below B9
  have gl := lt_of_heap h.x3
  have E := setCell_eq_setRow w9 g3 3 _ 26 (0, 0) v' x9
  have cb : But g3 w9 (w9.setCell ⟨g3, 3, none⟩ v') := (But.refl g3 w9).setCell _ _
  have hf : ∀ q, v'.ownBlock = some q → g3 < q := fun q hq => by have := f9 q hq; omega
  refine ⟨(h.b.trans (B9.mono h.b.size)).setCell hg _, by rw [E]; exact setRow_heap _ _ _ _ _ _ x9, o9.kept cb.size (fun q hq => cb.block q (o9.lt q hq) (by have := hf q hq; omega)), hf, hl, hs, ho⟩
set_option maxRecDepth 100000 in
set_option maxHeartbeats 16000000 in
theorem fitted22_nm (O R : ByteArray) (z : Int) (hO : O.size ≤ 9223372036854775807) (hR : R.size ≤ 140737488355000) (hz1 : -9223372036854775808 ≤ z) (hz2 : z ≤ 9223372036854775807) (S : List Sg) (n : Nat) (hn : Hid (S.length = n)) (hn2 : n ≤ 4398046511000) (hS : ∀ x ∈ S, x.1.size ≤ 9223372036854775807 ∧ x.2.size ≤ 140737488355000) (a : Option Addr) (c : Nat) (w : World) (hA : AtS w a S) :
    Calls Tryz.prog 8 #[nv O z R (.slice a n c)] w fun q w' => (∃ (O' : ByteArray) (z' : Int) (R' : ByteArray) (S' : List Sg) (a' : Option Addr) (c' : Nat), q = .returned (nv O' z' R' (.slice a' S'.length c')) ∧ AtS w' a' S' ∧ AtF w' a' S' ∧ S'.length ≤ 16 ∧ (O'.size ≤ 32 ∧ Hid (nmB O'.data.toList = true)) ∧ R'.size = 32 ∧ (0 ≤ z' ∧ z' < 1099511627777) ∧ Hid (allOk S' = true) ∧ ∀ x ∈ S', x.1.size ≤ 32 ∧ x.2.size ≤ 6000) ∧ Below w.heap.size w w' := by
  have b0 := (Below.refl w.heap.size w).alloc (Nat.le_refl _) (.cells #[.string O, .int .i64 z, .string R, .slice a n c] 26)
  have s0 := Bx.new w O z R (.slice a n c)
  have b1 := (Below.refl _ (w.alloc (.cells #[.string O, .int .i64 z, .string R, .slice a n c] 26))).alloc (Nat.le_refl _) (.cells #[.string ⟨#[]⟩, .int .i64 0, .string ⟨#[]⟩, .slice none 0 0] 26)
  have s1 := Bx.new (w.alloc (.cells #[.string O, .int .i64 z, .string R, .slice a n c] 26)) ⟨#[]⟩ 0 ⟨#[]⟩ (.slice none 0 0)
  have s0 := s0.below b1
  have hA := (hA.below b0).below b1
  have B1 := b0.trans (b1.mono b0.size)
  rw [size_alloc] at s1
  have z2 : ((w.alloc (.cells #[.string O, .int .i64 z, .string R, .slice a n c] 26)).alloc (.cells #[.string ⟨#[]⟩, .int .i64 0, .string ⟨#[]⟩, .slice none 0 0] 26)).heap.size = w.heap.size + 2 := by rw [size_alloc, size_alloc]
  obtain ⟨W, hW⟩ : ∃ W, (w.alloc (.cells #[.string O, .int .i64 z, .string R, .slice a n c] 26)).alloc (.cells #[.string ⟨#[]⟩, .int .i64 0, .string ⟨#[]⟩, .slice none 0 0] 26) = W := ⟨_, rfl⟩
  rw [hW] at s0 s1 hA B1 z2
  obtain ⟨g, hg⟩ : ∃ g, w.heap.size = g := ⟨_, rfl⟩
  rw [hg] at s0 s1 z2
  have cs : ∀ w', Below W.heap.size W w' → w'.cell? ⟨g, 0, none⟩ = some (.string O) ∧ w'.cell? ⟨g, 1, none⟩ = some (.int .i64 z) ∧ w'.cell? ⟨g, 2, none⟩ = some (.string R) := fun w' b => by
    have x1 := s0.below b
    exact ⟨x1.c0, x1.c1, x1.c2⟩
  have i1 := fun w' => name22_nm O hO w'
  have i2 := fun w' => Calls.mono (pick22_any z 1099511627777 hz1 hz2 (by decide) (by decide) w') (R' := fun q u => q = .returned (.int .i64 (pk22 z 1099511627777)) ∧ Below w'.heap.size w' u) (fun q u hq => ⟨hq.1, by rw [hq.2]; exact Below.refl _ _⟩)
  have i3 := fun w' => hash22_any R hR w'
  have B0 := hid ((Below.refl W.heap.size W).drew)
  have CS := hid cs
  have HS0 := hid s0
  have HS1 := hid s1
  have HA := hid hA
  have HB1 := hid B1
  have HG := hid hg
  have HW := hid hW
  have HZ2 := hid z2
  have HS := hid hS
  clear s0 s1 hA B1 hg hW z2 hS b0 b1 cs
  unfold nv at *
  go_enter Tryz.func8, Tryz.ntmps8
  go_upto_region 1 with fail
  rw [HW.out, HG.out]
  go_cut [3] from 8 to 20 (fun v3 w' => ∃ (g3 : Nat) (N : ByteArray) (z' : Int) (D : ByteArray), v3 = .pointer (some ⟨g3, 0, none⟩) ∧ Hid (Bx w' g3 N z' D (.slice none 0 0)) ∧ (N.size ≤ 32 ∧ Hid (nmB N.data.toList = true)) ∧ D.size = 32 ∧ (0 ≤ z' ∧ z' < 1099511627777) ∧ W.heap.size ≤ g3 ∧ Hid (Below W.heap.size W w'))
  case first =>
    refine wp_region_noPanic ?_
    refine wp_region_held_drew (S := fun W' => W'.cell? ⟨g, 0, none⟩ = some (.string O) ∧ W'.cell? ⟨g, 1, none⟩ = some (.int .i64 z) ∧ W'.cell? ⟨g, 2, none⟩ = some (.string R)) (by kernel_rfl) (CS.out _ B0.out) (fun hHeld => ?_)
    refine wpAnyH_take (i := 0) (oi := ⟨some 8, _, _, _, _, _⟩) (v := ?vPT0) rfl (by kernel_rfl) (by kernel_rfl) (by kernel_rfl) (fun _ _ _ h => h) (Or.inl ⟨by rfl, ?hyPT0⟩) (by assumption) ?restPT0
    case hyPT0 => (intro w hSw; (try dsimp only at hSw); go_simp <;> (try with_reducible rfl))
    try simp only [Act.put, List.setIfInBounds_toArray, List.set_cons_zero, List.set_cons_succ]
    refine wpAnyH_take (i := 1) (oi := ⟨some 9, _, _, _, _, _⟩) (v := ?vPT1) rfl (by kernel_rfl) (by kernel_rfl) (by kernel_rfl) (fun _ _ _ h => h) (Or.inl ⟨by rfl, ?hyPT1⟩) (by assumption) ?restPT1
    case hyPT1 => (intro w hSw; (try dsimp only at hSw); go_simp <;> (try with_reducible rfl))
    try simp only [Act.put, List.setIfInBounds_toArray, List.set_cons_zero, List.set_cons_succ]
    refine wpAnyH_take (i := 3) (oi := ⟨some 11, _, _, _, _, _⟩) (v := ?vPT3) rfl (by kernel_rfl) (by kernel_rfl) (by kernel_rfl) (fun _ _ _ h => h) (Or.inl ⟨by rfl, ?hyPT3⟩) (by assumption) ?restPT3
    case hyPT3 => (intro w hSw; (try dsimp only at hSw); go_simp <;> (try with_reducible rfl))
    try simp only [Act.put, List.setIfInBounds_toArray, List.set_cons_zero, List.set_cons_succ]
    refine wpAnyH_take (i := 4) (oi := ⟨some 12, _, _, _, _, _⟩) (v := ?vPT4) rfl (by kernel_rfl) (by kernel_rfl) (by kernel_rfl) (fun _ _ _ h => h) (Or.inl ⟨by rfl, ?hyPT4⟩) (by assumption) ?restPT4
    case hyPT4 => (intro w hSw; (try dsimp only at hSw); go_simp <;> (try with_reducible rfl))
    try simp only [Act.put, List.setIfInBounds_toArray, List.set_cons_zero, List.set_cons_succ]
    refine wpAnyH_take (i := 5) (oi := ⟨some 13, _, _, _, _, _⟩) (v := ?vPT5) rfl (by kernel_rfl) (by kernel_rfl) (by kernel_rfl) (fun _ _ _ h => h) (Or.inl ⟨by rfl, ?hyPT5⟩) (by assumption) ?restPT5
    case hyPT5 => (intro w hSw; (try dsimp only at hSw); go_simp <;> (try with_reducible rfl))
    try simp only [Act.put, List.setIfInBounds_toArray, List.set_cons_zero, List.set_cons_succ]
    refine wpAnyH_take (i := 7) (oi := ⟨some 15, _, _, _, _, _⟩) (v := ?vPT7) rfl (by kernel_rfl) (by kernel_rfl) (by kernel_rfl) (fun _ _ _ h => h) (Or.inl ⟨by rfl, ?hyPT7⟩) (by assumption) ?restPT7
    case hyPT7 => (intro w hSw; (try dsimp only at hSw); go_simp <;> (try with_reducible rfl))
    try simp only [Act.put, List.setIfInBounds_toArray, List.set_cons_zero, List.set_cons_succ]
    refine wpAnyH_take (i := 8) (oi := ⟨some 16, _, _, _, _, _⟩) (v := ?vPT8) rfl (by kernel_rfl) (by kernel_rfl) (by kernel_rfl) (fun _ _ _ h => h) (Or.inl ⟨by rfl, ?hyPT8⟩) (by assumption) ?restPT8
    case hyPT8 => (intro w hSw; (try dsimp only at hSw); go_simp <;> (try with_reducible rfl))
    try simp only [Act.put, List.setIfInBounds_toArray, List.set_cons_zero, List.set_cons_succ]
    refine wpAnyH_take (i := 9) (oi := ⟨some 17, _, _, _, _, _⟩) (v := ?vPT9) rfl (by kernel_rfl) (by kernel_rfl) (by kernel_rfl) (fun _ _ _ h => h) (Or.inl ⟨by rfl, ?hyPT9⟩) (by assumption) ?restPT9
    case hyPT9 => (intro w hSw; (try dsimp only at hSw); go_simp <;> (try with_reducible rfl))
    try simp only [Act.put, List.setIfInBounds_toArray, List.set_cons_zero, List.set_cons_succ]
    refine wpAnyH_ready (rs := [2, 13]) (by kernel_rfl) (by simp) ?_
    refine AllReadyH.cons (o := ⟨some 10, _, _, _, _, _⟩) rfl (fun K hK => ?_) (AllReadyH.cons (o := ⟨some 3, _, _, _, _, _⟩) rfl (fun K hK => ?_) AllReadyH.nil)
    · go_simp
      go_at_call 21
      refine (i1 _).mono ?_
      rintro q u1 ⟨⟨N, rfl, hN1, hN2⟩, bu⟩
      have hN : N.size ≤ 32 ∧ Hid (nmB N.data.toList = true) := ⟨hN1, hid hN2⟩
      clear hN1 hN2
      have Bu1 := hid (B0.out.trans (bu.mono B0.out.size))
      clear bu
      clear hHeld
      refine hK.out _ _ ?hSPc12 (fun hHeld => ?restPc12)
      case hSPc12 => exact CS.out _ Bu1.out
      clear hK K
      try simp only [Act.put, List.setIfInBounds_toArray, List.set_cons_zero, List.set_cons_succ]
      refine wpAnyH_ready (rs := [6, 13]) (by kernel_rfl) (by simp) ?_
      refine AllReadyH.cons (o := ⟨some 14, _, _, _, _, _⟩) rfl (fun K hK => ?_) (AllReadyH.cons (o := ⟨some 3, _, _, _, _, _⟩) rfl (fun K hK => ?_) AllReadyH.nil)
      · go_simp
        go_at_call 9
        refine (i2 _).mono ?_
        rintro q u2 ⟨rfl, bu⟩
        have Bu2 := hid (Bu1.out.trans (bu.mono Bu1.out.size))
        clear bu
        clear hHeld
        refine hK.out _ _ ?hSPcc26 (fun hHeld => ?restPcc26)
        case hSPcc26 => exact CS.out _ Bu2.out
        clear hK K
        try simp only [Act.put, List.setIfInBounds_toArray, List.set_cons_zero, List.set_cons_succ]
        refine wpAnyH_ready (rs := [10, 13]) (by kernel_rfl) (by simp) ?_
        refine AllReadyH.cons (o := ⟨some 18, _, _, _, _, _⟩) rfl (fun K hK => ?_) (AllReadyH.cons (o := ⟨some 3, _, _, _, _, _⟩) rfl (fun K hK => ?_) AllReadyH.nil)
        · go_simp
          go_at_call 22
          refine (i3 _).mono ?_
          rintro q u3 ⟨⟨D, rfl, hD⟩, bu⟩
          have Bu3 := hid (Bu2.out.trans (bu.mono Bu2.out.size))
          clear bu
          clear hHeld
          refine hK.out _ _ ?hSPccc310 (fun hHeld => ?restPccc310)
          case hSPccc310 => exact CS.out _ Bu3.out
          clear hK K
          try simp only [Act.put, List.setIfInBounds_toArray, List.set_cons_zero, List.set_cons_succ]
          refine wpAnyH_take (i := 11) (oi := ⟨some 19, _, _, _, _, _⟩) (v := ?vPccc311) rfl (by kernel_rfl) (by kernel_rfl) (by kernel_rfl) (fun _ _ _ h => h) (Or.inl ⟨by rfl, ?hyPccc311⟩) (by assumption) ?restPccc311
          case hyPccc311 => (intro w hSw; (try dsimp only at hSw); go_simp <;> (try with_reducible rfl))
          try simp only [Act.put, List.setIfInBounds_toArray, List.set_cons_zero, List.set_cons_succ]
          refine wpAnyH_take (i := 12) (oi := ⟨some 20, _, _, _, _, _⟩) (v := ?vPccc312) rfl (by kernel_rfl) (by kernel_rfl) (by kernel_rfl) (fun _ _ _ h => h) (Or.inl ⟨by rfl, ?hyPccc312⟩) (by assumption) ?restPccc312
          case hyPccc312 => (intro w hSw; (try dsimp only at hSw); go_simp <;> (try with_reducible rfl))
          try simp only [Act.put, List.setIfInBounds_toArray, List.set_cons_zero, List.set_cons_succ]
          refine wpAnyH_ready (rs := [13]) (by kernel_rfl) (by simp) ?_
          refine AllReadyH.cons (o := ⟨some 3, _, _, _, _, _⟩) rfl (fun K hK => ?_) AllReadyH.nil
          go_simp
          have Ba4 := hid (Bu3.out.alloc (by first | exact Bu3.out.size | exact Nat.le_refl _) (.cells #[.string ⟨#[]⟩, .int .i64 0, .string ⟨#[]⟩, .slice none 0 0] 26))
          have Xa4 := hid (Bx.new (u3) ⟨#[]⟩ 0 ⟨#[]⟩ (.slice none 0 0))
          have GXa4 := hid Bu3.out.size
          clear hHeld
          refine hK.out _ _ ?hSPccca413 (fun hHeld => ?restPccca413)
          case hSPccca413 => exact CS.out _ Ba4.out
          clear hK K
          try simp only [Act.put, List.setIfInBounds_toArray, List.set_cons_zero, List.set_cons_succ]
          refine wpAnyH_ready (rs := [14]) (by kernel_rfl) (by simp) ?_
          refine AllReadyH.cons (o := ⟨none, _, _, _, _, _⟩) rfl (fun K hK => ?_) AllReadyH.nil
          refine step_store_row22 rfl 26 _ _ rfl _ #[.string N, .int .i64 (pk22 z 1099511627777), .string D, .slice none 0 0] ?hx ?hy 26 _ Xa4.out (sizeNt22 _ _ _ _) rfl (oneNt22 _ _ _ _ _ _) ?_
          case hx => go_simp
          case hy => go_simp
          have BF := hid (Below.setRow Ba4.out GXa4.out #[.string N, .int .i64 (pk22 z 1099511627777), .string D, .slice none 0 0])
          clear hHeld
          refine hK.out _ _ ?hSPccca14 (fun hHeld => ?restPccca14)
          case hSPccca14 => exact CS.out _ BF.out
          clear hK K
          refine wpAnyH_done (by kernel_rfl) ?_ _
          refine NoPanic.normal ?_
          clear hHeld
          go_wp2
          go_meet
          exact ⟨_, N, _, D, rfl, hid (setRow_heap _ _ _ _ _ _ Xa4.out), hN, hD, ⟨pk_nonneg22 _ _ (by decide), pk_lt22 _ _ (by decide)⟩, GXa4.out, BF⟩
        · go_simp
          have Ba5 := hid (Bu2.out.alloc (by first | exact Bu2.out.size | exact Nat.le_refl _) (.cells #[.string ⟨#[]⟩, .int .i64 0, .string ⟨#[]⟩, .slice none 0 0] 26))
          have Xa5 := hid (Bx.new (u2) ⟨#[]⟩ 0 ⟨#[]⟩ (.slice none 0 0))
          have GXa5 := hid Bu2.out.size
          clear hHeld
          refine hK.out _ _ ?hSPcca513 (fun hHeld => ?restPcca513)
          case hSPcca513 => exact CS.out _ Ba5.out
          clear hK K
          try simp only [Act.put, List.setIfInBounds_toArray, List.set_cons_zero, List.set_cons_succ]
          refine wpAnyH_ready (rs := [10]) (by kernel_rfl) (by simp) ?_
          refine AllReadyH.cons (o := ⟨some 18, _, _, _, _, _⟩) rfl (fun K hK => ?_) AllReadyH.nil
          go_simp
          go_at_call 22
          refine (i3 _).mono ?_
          rintro q u6 ⟨⟨D, rfl, hD⟩, bu⟩
          have Bu6 := hid (Ba5.out.trans (bu.mono Ba5.out.size))
          have Xu6 := hid (Xa5.out.below bu)
          clear bu
          clear hHeld
          refine hK.out _ _ ?hSPccac610 (fun hHeld => ?restPccac610)
          case hSPccac610 => exact CS.out _ Bu6.out
          clear hK K
          try simp only [Act.put, List.setIfInBounds_toArray, List.set_cons_zero, List.set_cons_succ]
          refine wpAnyH_take (i := 11) (oi := ⟨some 19, _, _, _, _, _⟩) (v := ?vPccac611) rfl (by kernel_rfl) (by kernel_rfl) (by kernel_rfl) (fun _ _ _ h => h) (Or.inl ⟨by rfl, ?hyPccac611⟩) (by assumption) ?restPccac611
          case hyPccac611 => (intro w hSw; (try dsimp only at hSw); go_simp <;> (try with_reducible rfl))
          try simp only [Act.put, List.setIfInBounds_toArray, List.set_cons_zero, List.set_cons_succ]
          refine wpAnyH_take (i := 12) (oi := ⟨some 20, _, _, _, _, _⟩) (v := ?vPccac612) rfl (by kernel_rfl) (by kernel_rfl) (by kernel_rfl) (fun _ _ _ h => h) (Or.inl ⟨by rfl, ?hyPccac612⟩) (by assumption) ?restPccac612
          case hyPccac612 => (intro w hSw; (try dsimp only at hSw); go_simp <;> (try with_reducible rfl))
          try simp only [Act.put, List.setIfInBounds_toArray, List.set_cons_zero, List.set_cons_succ]
          refine wpAnyH_ready (rs := [14]) (by kernel_rfl) (by simp) ?_
          refine AllReadyH.cons (o := ⟨none, _, _, _, _, _⟩) rfl (fun K hK => ?_) AllReadyH.nil
          refine step_store_row22 rfl 26 _ _ rfl _ #[.string N, .int .i64 (pk22 z 1099511627777), .string D, .slice none 0 0] ?hx ?hy 26 _ Xu6.out (sizeNt22 _ _ _ _) rfl (oneNt22 _ _ _ _ _ _) ?_
          case hx => go_simp
          case hy => go_simp
          have BF := hid (Below.setRow Bu6.out GXa5.out #[.string N, .int .i64 (pk22 z 1099511627777), .string D, .slice none 0 0])
          clear hHeld
          refine hK.out _ _ ?hSPccac14 (fun hHeld => ?restPccac14)
          case hSPccac14 => exact CS.out _ BF.out
          clear hK K
          refine wpAnyH_done (by kernel_rfl) ?_ _
          refine NoPanic.normal ?_
          clear hHeld
          go_wp2
          go_meet
          exact ⟨_, N, _, D, rfl, hid (setRow_heap _ _ _ _ _ _ Xu6.out), hN, hD, ⟨pk_nonneg22 _ _ (by decide), pk_lt22 _ _ (by decide)⟩, GXa5.out, BF⟩
      · go_simp
        have Ba7 := hid (Bu1.out.alloc (by first | exact Bu1.out.size | exact Nat.le_refl _) (.cells #[.string ⟨#[]⟩, .int .i64 0, .string ⟨#[]⟩, .slice none 0 0] 26))
        have Xa7 := hid (Bx.new (u1) ⟨#[]⟩ 0 ⟨#[]⟩ (.slice none 0 0))
        have GXa7 := hid Bu1.out.size
        clear hHeld
        refine hK.out _ _ ?hSPca713 (fun hHeld => ?restPca713)
        case hSPca713 => exact CS.out _ Ba7.out
        clear hK K
        try simp only [Act.put, List.setIfInBounds_toArray, List.set_cons_zero, List.set_cons_succ]
        refine wpAnyH_ready (rs := [6]) (by kernel_rfl) (by simp) ?_
        refine AllReadyH.cons (o := ⟨some 14, _, _, _, _, _⟩) rfl (fun K hK => ?_) AllReadyH.nil
        go_simp
        go_at_call 9
        refine (i2 _).mono ?_
        rintro q u8 ⟨rfl, bu⟩
        have Bu8 := hid (Ba7.out.trans (bu.mono Ba7.out.size))
        have Xu8 := hid (Xa7.out.below bu)
        clear bu
        clear hHeld
        refine hK.out _ _ ?hSPcac86 (fun hHeld => ?restPcac86)
        case hSPcac86 => exact CS.out _ Bu8.out
        clear hK K
        try simp only [Act.put, List.setIfInBounds_toArray, List.set_cons_zero, List.set_cons_succ]
        refine wpAnyH_ready (rs := [10]) (by kernel_rfl) (by simp) ?_
        refine AllReadyH.cons (o := ⟨some 18, _, _, _, _, _⟩) rfl (fun K hK => ?_) AllReadyH.nil
        go_simp
        go_at_call 22
        refine (i3 _).mono ?_
        rintro q u9 ⟨⟨D, rfl, hD⟩, bu⟩
        have Bu9 := hid (Bu8.out.trans (bu.mono Bu8.out.size))
        have Xu9 := hid (Xu8.out.below bu)
        clear bu
        clear hHeld
        refine hK.out _ _ ?hSPcacc910 (fun hHeld => ?restPcacc910)
        case hSPcacc910 => exact CS.out _ Bu9.out
        clear hK K
        try simp only [Act.put, List.setIfInBounds_toArray, List.set_cons_zero, List.set_cons_succ]
        refine wpAnyH_take (i := 11) (oi := ⟨some 19, _, _, _, _, _⟩) (v := ?vPcacc911) rfl (by kernel_rfl) (by kernel_rfl) (by kernel_rfl) (fun _ _ _ h => h) (Or.inl ⟨by rfl, ?hyPcacc911⟩) (by assumption) ?restPcacc911
        case hyPcacc911 => (intro w hSw; (try dsimp only at hSw); go_simp <;> (try with_reducible rfl))
        try simp only [Act.put, List.setIfInBounds_toArray, List.set_cons_zero, List.set_cons_succ]
        refine wpAnyH_take (i := 12) (oi := ⟨some 20, _, _, _, _, _⟩) (v := ?vPcacc912) rfl (by kernel_rfl) (by kernel_rfl) (by kernel_rfl) (fun _ _ _ h => h) (Or.inl ⟨by rfl, ?hyPcacc912⟩) (by assumption) ?restPcacc912
        case hyPcacc912 => (intro w hSw; (try dsimp only at hSw); go_simp <;> (try with_reducible rfl))
        try simp only [Act.put, List.setIfInBounds_toArray, List.set_cons_zero, List.set_cons_succ]
        refine wpAnyH_ready (rs := [14]) (by kernel_rfl) (by simp) ?_
        refine AllReadyH.cons (o := ⟨none, _, _, _, _, _⟩) rfl (fun K hK => ?_) AllReadyH.nil
        refine step_store_row22 rfl 26 _ _ rfl _ #[.string N, .int .i64 (pk22 z 1099511627777), .string D, .slice none 0 0] ?hx ?hy 26 _ Xu9.out (sizeNt22 _ _ _ _) rfl (oneNt22 _ _ _ _ _ _) ?_
        case hx => go_simp
        case hy => go_simp
        have BF := hid (Below.setRow Bu9.out GXa7.out #[.string N, .int .i64 (pk22 z 1099511627777), .string D, .slice none 0 0])
        clear hHeld
        refine hK.out _ _ ?hSPcacc14 (fun hHeld => ?restPcacc14)
        case hSPcacc14 => exact CS.out _ BF.out
        clear hK K
        refine wpAnyH_done (by kernel_rfl) ?_ _
        refine NoPanic.normal ?_
        clear hHeld
        go_wp2
        go_meet
        exact ⟨_, N, _, D, rfl, hid (setRow_heap _ _ _ _ _ _ Xu9.out), hN, hD, ⟨pk_nonneg22 _ _ (by decide), pk_lt22 _ _ (by decide)⟩, GXa7.out, BF⟩
    · go_simp
      have Ba10 := hid (B0.out.alloc (by first | exact B0.out.size | exact Nat.le_refl _) (.cells #[.string ⟨#[]⟩, .int .i64 0, .string ⟨#[]⟩, .slice none 0 0] 26))
      have Xa10 := hid (Bx.new (W.drew) ⟨#[]⟩ 0 ⟨#[]⟩ (.slice none 0 0))
      have GXa10 := hid B0.out.size
      clear hHeld
      refine hK.out _ _ ?hSPa1013 (fun hHeld => ?restPa1013)
      case hSPa1013 => exact CS.out _ Ba10.out
      clear hK K
      try simp only [Act.put, List.setIfInBounds_toArray, List.set_cons_zero, List.set_cons_succ]
      refine wpAnyH_ready (rs := [2]) (by kernel_rfl) (by simp) ?_
      refine AllReadyH.cons (o := ⟨some 10, _, _, _, _, _⟩) rfl (fun K hK => ?_) AllReadyH.nil
      go_simp
      go_at_call 21
      refine (i1 _).mono ?_
      rintro q u11 ⟨⟨N, rfl, hN1, hN2⟩, bu⟩
      have hN : N.size ≤ 32 ∧ Hid (nmB N.data.toList = true) := ⟨hN1, hid hN2⟩
      clear hN1 hN2
      have Bu11 := hid (Ba10.out.trans (bu.mono Ba10.out.size))
      have Xu11 := hid (Xa10.out.below bu)
      clear bu
      clear hHeld
      refine hK.out _ _ ?hSPac112 (fun hHeld => ?restPac112)
      case hSPac112 => exact CS.out _ Bu11.out
      clear hK K
      try simp only [Act.put, List.setIfInBounds_toArray, List.set_cons_zero, List.set_cons_succ]
      refine wpAnyH_ready (rs := [6]) (by kernel_rfl) (by simp) ?_
      refine AllReadyH.cons (o := ⟨some 14, _, _, _, _, _⟩) rfl (fun K hK => ?_) AllReadyH.nil
      go_simp
      go_at_call 9
      refine (i2 _).mono ?_
      rintro q u12 ⟨rfl, bu⟩
      have Bu12 := hid (Bu11.out.trans (bu.mono Bu11.out.size))
      have Xu12 := hid (Xu11.out.below bu)
      clear bu
      clear hHeld
      refine hK.out _ _ ?hSPacc126 (fun hHeld => ?restPacc126)
      case hSPacc126 => exact CS.out _ Bu12.out
      clear hK K
      try simp only [Act.put, List.setIfInBounds_toArray, List.set_cons_zero, List.set_cons_succ]
      refine wpAnyH_ready (rs := [10]) (by kernel_rfl) (by simp) ?_
      refine AllReadyH.cons (o := ⟨some 18, _, _, _, _, _⟩) rfl (fun K hK => ?_) AllReadyH.nil
      go_simp
      go_at_call 22
      refine (i3 _).mono ?_
      rintro q u13 ⟨⟨D, rfl, hD⟩, bu⟩
      have Bu13 := hid (Bu12.out.trans (bu.mono Bu12.out.size))
      have Xu13 := hid (Xu12.out.below bu)
      clear bu
      clear hHeld
      refine hK.out _ _ ?hSPaccc1310 (fun hHeld => ?restPaccc1310)
      case hSPaccc1310 => exact CS.out _ Bu13.out
      clear hK K
      try simp only [Act.put, List.setIfInBounds_toArray, List.set_cons_zero, List.set_cons_succ]
      refine wpAnyH_take (i := 11) (oi := ⟨some 19, _, _, _, _, _⟩) (v := ?vPaccc1311) rfl (by kernel_rfl) (by kernel_rfl) (by kernel_rfl) (fun _ _ _ h => h) (Or.inl ⟨by rfl, ?hyPaccc1311⟩) (by assumption) ?restPaccc1311
      case hyPaccc1311 => (intro w hSw; (try dsimp only at hSw); go_simp <;> (try with_reducible rfl))
      try simp only [Act.put, List.setIfInBounds_toArray, List.set_cons_zero, List.set_cons_succ]
      refine wpAnyH_take (i := 12) (oi := ⟨some 20, _, _, _, _, _⟩) (v := ?vPaccc1312) rfl (by kernel_rfl) (by kernel_rfl) (by kernel_rfl) (fun _ _ _ h => h) (Or.inl ⟨by rfl, ?hyPaccc1312⟩) (by assumption) ?restPaccc1312
      case hyPaccc1312 => (intro w hSw; (try dsimp only at hSw); go_simp <;> (try with_reducible rfl))
      try simp only [Act.put, List.setIfInBounds_toArray, List.set_cons_zero, List.set_cons_succ]
      refine wpAnyH_ready (rs := [14]) (by kernel_rfl) (by simp) ?_
      refine AllReadyH.cons (o := ⟨none, _, _, _, _, _⟩) rfl (fun K hK => ?_) AllReadyH.nil
      refine step_store_row22 rfl 26 _ _ rfl _ #[.string N, .int .i64 (pk22 z 1099511627777), .string D, .slice none 0 0] ?hx ?hy 26 _ Xu13.out (sizeNt22 _ _ _ _) rfl (oneNt22 _ _ _ _ _ _) ?_
      case hx => go_simp
      case hy => go_simp
      have BF := hid (Below.setRow Bu13.out GXa10.out #[.string N, .int .i64 (pk22 z 1099511627777), .string D, .slice none 0 0])
      clear hHeld
      refine hK.out _ _ ?hSPaccc14 (fun hHeld => ?restPaccc14)
      case hSPaccc14 => exact CS.out _ BF.out
      clear hK K
      refine wpAnyH_done (by kernel_rfl) ?_ _
      refine NoPanic.normal ?_
      clear hHeld
      go_wp2
      go_meet
      exact ⟨_, N, _, D, rfl, hid (setRow_heap _ _ _ _ _ _ Xu13.out), hN, hD, ⟨pk_nonneg22 _ _ (by decide), pk_lt22 _ _ (by decide)⟩, GXa10.out, BF⟩
  case rest =>
    revert wc
    intro w1 hcut
    obtain ⟨g3, N, z', D, rfl, HX3, hN, hD, hz, hg3, HBc⟩ := hcut
    have F0 : Fp W g3 N z' D (.slice none 0 0) [] w1 := ⟨HBc.out, HX3.out, .inl ⟨rfl, rfl, rfl⟩, (fun k hk => by cases hk), by simp, (fun x hx => by cases hx), rfl⟩
    have F0 := hid F0
    have HGE := hid hg3
    have HND := hid (And.intro hN (And.intro hD hz))
    clear HX3 HBc hg3 hN hD hz i2 i3 B0 CS
    obtain ⟨v0, hv0⟩ : ∃ v, (Value.slice none 0 0) = v := ⟨_, rfl⟩
    rw [hv0] at F0
    clear hv0
    go_upto_region 2 with fail
    go_wp2
    go_loopw [4] (fun i w' => ∃ (j : Nat) (v : Value) (L : List Sg), i = .int .i64 (j : Int) ∧ j ≤ n ∧ Hid (Fp W g3 N z' D v L w')) (fun i _ => n - (intOf i).toNat)
    case atStart => exact ⟨0, _, [], rfl, by omega, F0⟩
    case round =>
      clear F0
      obtain ⟨j, v, L, rfl, hj, hF⟩ := hrel
      obtain ⟨va, vc, rfl, -, -⟩ := hF.out.own.shape
      have hL := hF.out.len
      have x0 := (HS0.out.below hF.out.b).c3
      have x3 := hF.out.x3.c3
      by_cases h1 : j < n
      · have q1 : (j : Int) < (n : Int) := by omega
        by_cases h2 : L.length < 16
        · have q2 : (L.length : Int) < 16 := by omega
          go_upto_region 5 with fail
          obtain ⟨⟨X, Y⟩, hq⟩ : ∃ q, S[j]? = some q := ⟨_, List.getElem?_eq_getElem (by rw [hn.out]; exact h1)⟩
          obtain ⟨p, rfl, pb, e1, e2⟩ := HA.out j _ hq
          have hXY := HS.out _ (List.mem_of_getElem? hq)
          have hXz : X.size ≤ 9223372036854775807 := hXY.1
          have hYz : Y.size ≤ 140737488355000 := hXY.2
          have q3 : (0 : Int) ≤ (j : Int) := by omega
          have pl : p.block < wr.heap.size := Nat.lt_of_lt_of_le pb hF.out.b.size
          have gl : g < wr.heap.size := lt_of_heap (HS0.out.below hF.out.b)
          have f1 : wr.cell? (p.add (j * 2)) = some (.string X) := (hF.out.b.cell (p := p.add (j * 2)) (by rw [adr_block]; exact pb)).trans e1
          have f2 : wr.cell? ⟨(p.add (j * 2)).block, (p.add (j * 2)).off + 1, none⟩ = some (.string Y) := (hF.out.b.cell (p := ⟨(p.add (j * 2)).block, (p.add (j * 2)).off + 1, none⟩) (by show (p.add (j * 2)).block < _; rw [adr_block]; exact pb)).trans e2
          have cr : ∀ w', Below wr.heap.size wr w' → w'.cell? ⟨g, 3, none⟩ = some (.slice (some p) n c) ∧ w'.cell? (p.add (j * 2)) = some (.string X) ∧ w'.cell? ⟨(p.add (j * 2)).block, (p.add (j * 2)).off + 1, none⟩ = some (.string Y) := fun w' b => ⟨(b.cell (p := ⟨g, 3, none⟩) gl).trans x0, (b.cell (p := p.add (j * 2)) (by rw [adr_block]; exact pl)).trans f1, (b.cell (p := ⟨(p.add (j * 2)).block, (p.add (j * 2)).off + 1, none⟩) (by show (p.add (j * 2)).block < _; rw [adr_block]; exact pl)).trans f2⟩
          have CR := hid cr
          have R0 := hid ((Below.refl wr.heap.size wr).drew)
          have i4 := fun w' => name22_nm X hXz w'
          have HYz := hid hYz
          clear cr f1 f2 e1 e2 pb pl gl hXY hq hXz hYz x3
          go_cut [5] from 34 to 47 (fun v5 w' => ∃ (gx : Nat) (X2 : ByteArray), v5 = .pointer (some ⟨gx, 0, none⟩) ∧ (X2.size ≤ 32 ∧ Hid (nmB X2.data.toList = true)) ∧ wr.heap.size ≤ gx ∧ Hid (Gx w' gx X2 Y) ∧ Hid (Below wr.heap.size wr w'))
          case first =>
            refine wp_region_noPanic ?_
            refine wp_region_held_drew (S := fun w' => w'.cell? ⟨g, 3, none⟩ = some (.slice (some p) n c) ∧ w'.cell? (p.add (j * 2)) = some (.string X) ∧ w'.cell? ⟨(p.add (j * 2)).block, (p.add (j * 2)).off + 1, none⟩ = some (.string Y)) (by kernel_rfl) (CR.out _ R0.out) (fun hHeld => ?_)
            refine wpAnyH_take (i := 0) (oi := ⟨some 34, _, _, _, _, _⟩) (v := ?vQT0) rfl (by kernel_rfl) (by kernel_rfl) (by kernel_rfl) (fun _ _ _ h => h) (Or.inl ⟨by rfl, ?hyQT0⟩) (by assumption) ?restQT0
            case hyQT0 => (intro w hSw; (try dsimp only at hSw); go_simp <;> (try with_reducible rfl))
            try simp only [Act.put, List.setIfInBounds_toArray, List.set_cons_zero, List.set_cons_succ]
            refine wpAnyH_take (i := 1) (oi := ⟨some 35, _, _, _, _, _⟩) (v := ?vQT1) rfl (by kernel_rfl) (by kernel_rfl) (by kernel_rfl) (fun _ _ _ h => h) (Or.inl ⟨by rfl, ?hyQT1⟩) (by assumption) ?restQT1
            case hyQT1 => (intro w hSw; (try dsimp only at hSw); go_simp <;> (try with_reducible rfl))
            try simp only [Act.put, List.setIfInBounds_toArray, List.set_cons_zero, List.set_cons_succ]
            refine wpAnyH_take (i := 2) (oi := ⟨some 36, _, _, _, _, _⟩) (v := ?vQT2) rfl (by kernel_rfl) (by kernel_rfl) (by kernel_rfl) (fun _ _ _ h => h) (Or.inl ⟨by rfl, ?hyQT2⟩) (by assumption) ?restQT2
            case hyQT2 => (intro w hSw; (try dsimp only at hSw); go_simp <;> (try with_reducible rfl))
            try simp only [Act.put, List.setIfInBounds_toArray, List.set_cons_zero, List.set_cons_succ]
            refine wpAnyH_take (i := 3) (oi := ⟨some 37, _, _, _, _, _⟩) (v := ?vQT3) rfl (by kernel_rfl) (by kernel_rfl) (by kernel_rfl) (fun _ _ _ h => h) (Or.inl ⟨by rfl, ?hyQT3⟩) (by assumption) ?restQT3
            case hyQT3 => (intro w hSw; (try dsimp only at hSw); go_simp <;> (try with_reducible rfl))
            try simp only [Act.put, List.setIfInBounds_toArray, List.set_cons_zero, List.set_cons_succ]
            refine wpAnyH_take (i := 4) (oi := ⟨some 38, _, _, _, _, _⟩) (v := ?vQT4) rfl (by kernel_rfl) (by kernel_rfl) (by kernel_rfl) (fun _ _ _ h => h) (Or.inl ⟨by rfl, ?hyQT4⟩) (by assumption) ?restQT4
            case hyQT4 => (intro w hSw; (try dsimp only at hSw); go_simp <;> (try with_reducible rfl))
            try simp only [Act.put, List.setIfInBounds_toArray, List.set_cons_zero, List.set_cons_succ]
            refine wpAnyH_take (i := 5) (oi := ⟨some 39, _, _, _, _, _⟩) (v := ?vQT5) rfl (by kernel_rfl) (by kernel_rfl) (by kernel_rfl) (fun _ _ _ h => h) (Or.inl ⟨by rfl, ?hyQT5⟩) (by assumption) ?restQT5
            case hyQT5 => (intro w hSw; (try dsimp only at hSw); go_simp <;> (try with_reducible rfl))
            try simp only [Act.put, List.setIfInBounds_toArray, List.set_cons_zero, List.set_cons_succ]
            refine wpAnyH_take (i := 7) (oi := ⟨some 41, _, _, _, _, _⟩) (v := ?vQT7) rfl (by kernel_rfl) (by kernel_rfl) (by kernel_rfl) (fun _ _ _ h => h) (Or.inl ⟨by rfl, ?hyQT7⟩) (by assumption) ?restQT7
            case hyQT7 => (intro w hSw; (try dsimp only at hSw); go_simp <;> (try with_reducible rfl))
            try simp only [Act.put, List.setIfInBounds_toArray, List.set_cons_zero, List.set_cons_succ]
            refine wpAnyH_take (i := 8) (oi := ⟨some 42, _, _, _, _, _⟩) (v := ?vQT8) rfl (by kernel_rfl) (by kernel_rfl) (by kernel_rfl) (fun _ _ _ h => h) (Or.inl ⟨by rfl, ?hyQT8⟩) (by assumption) ?restQT8
            case hyQT8 => (intro w hSw; (try dsimp only at hSw); go_simp <;> (try with_reducible rfl))
            try simp only [Act.put, List.setIfInBounds_toArray, List.set_cons_zero, List.set_cons_succ]
            refine wpAnyH_take (i := 9) (oi := ⟨some 43, _, _, _, _, _⟩) (v := ?vQT9) rfl (by kernel_rfl) (by kernel_rfl) (by kernel_rfl) (fun _ _ _ h => h) (Or.inl ⟨by rfl, ?hyQT9⟩) (by assumption) ?restQT9
            case hyQT9 => (intro w hSw; (try dsimp only at hSw); go_simp <;> (try with_reducible rfl))
            try simp only [Act.put, List.setIfInBounds_toArray, List.set_cons_zero, List.set_cons_succ]
            refine wpAnyH_take (i := 10) (oi := ⟨some 44, _, _, _, _, _⟩) (v := ?vQT10) rfl (by kernel_rfl) (by kernel_rfl) (by kernel_rfl) (fun _ _ _ h => h) (Or.inl ⟨by rfl, ?hyQT10⟩) (by assumption) ?restQT10
            case hyQT10 => (intro w hSw; (try dsimp only at hSw); go_simp <;> (try with_reducible rfl))
            try simp only [Act.put, List.setIfInBounds_toArray, List.set_cons_zero, List.set_cons_succ]
            refine wpAnyH_take (i := 11) (oi := ⟨some 45, _, _, _, _, _⟩) (v := ?vQT11) rfl (by kernel_rfl) (by kernel_rfl) (by kernel_rfl) (fun _ _ _ h => h) (Or.inl ⟨by rfl, ?hyQT11⟩) (by assumption) ?restQT11
            case hyQT11 => (intro w hSw; (try dsimp only at hSw); go_simp <;> (try with_reducible rfl))
            try simp only [Act.put, List.setIfInBounds_toArray, List.set_cons_zero, List.set_cons_succ]
            refine wpAnyH_take (i := 12) (oi := ⟨some 46, _, _, _, _, _⟩) (v := ?vQT12) rfl (by kernel_rfl) (by kernel_rfl) (by kernel_rfl) (fun _ _ _ h => h) (Or.inl ⟨by rfl, ?hyQT12⟩) (by assumption) ?restQT12
            case hyQT12 => (intro w hSw; (try dsimp only at hSw); go_simp <;> (try with_reducible rfl))
            try simp only [Act.put, List.setIfInBounds_toArray, List.set_cons_zero, List.set_cons_succ]
            refine wpAnyH_ready (rs := [6, 14]) (by kernel_rfl) (by simp) ?_
            refine AllReadyH.cons (o := ⟨some 40, _, _, _, _, _⟩) rfl (fun K hK => ?_) (AllReadyH.cons (o := ⟨some 5, _, _, _, _, _⟩) rfl (fun K hK => ?_) AllReadyH.nil)
            · go_simp
              go_at_call 21
              refine (i4 _).mono ?_
              rintro q u1 ⟨⟨X2, rfl, hX21, hX22⟩, bu⟩
              have hX2 : X2.size ≤ 32 ∧ Hid (nmB X2.data.toList = true) := ⟨hX21, hid hX22⟩
              clear hX21 hX22
              have Bu1 := hid (R0.out.trans (bu.mono R0.out.size))
              clear bu
              clear hHeld
              refine hK.out _ _ ?hSQc16 (fun hHeld => ?restQc16)
              case hSQc16 => exact CR.out _ Bu1.out
              clear hK K
              try simp only [Act.put, List.setIfInBounds_toArray, List.set_cons_zero, List.set_cons_succ]
              refine wpAnyH_take (i := 13) (oi := ⟨some 47, _, _, _, _, _⟩) (v := ?vQc113) rfl (by kernel_rfl) (by kernel_rfl) (by kernel_rfl) (fun _ _ _ h => h) (Or.inl ⟨by rfl, ?hyQc113⟩) (by assumption) ?restQc113
              case hyQc113 => (intro w hSw; (try dsimp only at hSw); go_simp <;> (try with_reducible rfl))
              try simp only [Act.put, List.setIfInBounds_toArray, List.set_cons_zero, List.set_cons_succ]
              refine wpAnyH_ready (rs := [14]) (by kernel_rfl) (by simp) ?_
              refine AllReadyH.cons (o := ⟨some 5, _, _, _, _, _⟩) rfl (fun K hK => ?_) AllReadyH.nil
              go_simp
              have Ba2 := hid (Bu1.out.alloc (by first | exact Bu1.out.size | exact Nat.le_refl _) (.cells #[.string ⟨#[]⟩, .string ⟨#[]⟩] 32))
              have Xa2 := hid (Gx.new (u1) ⟨#[]⟩ ⟨#[]⟩)
              have GXa2 := hid Bu1.out.size
              clear hHeld
              refine hK.out _ _ ?hSQca214 (fun hHeld => ?restQca214)
              case hSQca214 => exact CR.out _ Ba2.out
              clear hK K
              try simp only [Act.put, List.setIfInBounds_toArray, List.set_cons_zero, List.set_cons_succ]
              refine wpAnyH_ready (rs := [15]) (by kernel_rfl) (by simp) ?_
              refine AllReadyH.cons (o := ⟨none, _, _, _, _, _⟩) rfl (fun K hK => ?_) AllReadyH.nil
              refine step_store_row22 rfl 32 _ _ rfl _ #[.string X2, .string Y] ?hx ?hy 32 _ Xa2.out (sizeSg22 _ _) rfl (oneSg22 _ _) ?_
              case hx => go_simp
              case hy => go_simp
              have BF := hid (Below.setRow Ba2.out GXa2.out #[.string X2, .string Y])
              clear hHeld
              refine hK.out _ _ ?hSQca15 (fun hHeld => ?restQca15)
              case hSQca15 => exact CR.out _ BF.out
              clear hK K
              refine wpAnyH_done (by kernel_rfl) ?_ _
              refine NoPanic.normal ?_
              clear hHeld
              go_wp2
              go_meet
              exact ⟨_, X2, rfl, hX2, GXa2.out, hid (setRow_heap _ _ _ _ _ _ Xa2.out), BF⟩
            · go_simp
              have Ba3 := hid (R0.out.alloc (by first | exact R0.out.size | exact Nat.le_refl _) (.cells #[.string ⟨#[]⟩, .string ⟨#[]⟩] 32))
              have Xa3 := hid (Gx.new (wr.drew) ⟨#[]⟩ ⟨#[]⟩)
              have GXa3 := hid R0.out.size
              clear hHeld
              refine hK.out _ _ ?hSQa314 (fun hHeld => ?restQa314)
              case hSQa314 => exact CR.out _ Ba3.out
              clear hK K
              try simp only [Act.put, List.setIfInBounds_toArray, List.set_cons_zero, List.set_cons_succ]
              refine wpAnyH_ready (rs := [6]) (by kernel_rfl) (by simp) ?_
              refine AllReadyH.cons (o := ⟨some 40, _, _, _, _, _⟩) rfl (fun K hK => ?_) AllReadyH.nil
              go_simp
              go_at_call 21
              refine (i4 _).mono ?_
              rintro q u4 ⟨⟨X2, rfl, hX21, hX22⟩, bu⟩
              have hX2 : X2.size ≤ 32 ∧ Hid (nmB X2.data.toList = true) := ⟨hX21, hid hX22⟩
              clear hX21 hX22
              have Bu4 := hid (Ba3.out.trans (bu.mono Ba3.out.size))
              have Xu4 := hid (Xa3.out.below bu)
              clear bu
              clear hHeld
              refine hK.out _ _ ?hSQac46 (fun hHeld => ?restQac46)
              case hSQac46 => exact CR.out _ Bu4.out
              clear hK K
              try simp only [Act.put, List.setIfInBounds_toArray, List.set_cons_zero, List.set_cons_succ]
              refine wpAnyH_take (i := 13) (oi := ⟨some 47, _, _, _, _, _⟩) (v := ?vQac413) rfl (by kernel_rfl) (by kernel_rfl) (by kernel_rfl) (fun _ _ _ h => h) (Or.inl ⟨by rfl, ?hyQac413⟩) (by assumption) ?restQac413
              case hyQac413 => (intro w hSw; (try dsimp only at hSw); go_simp <;> (try with_reducible rfl))
              try simp only [Act.put, List.setIfInBounds_toArray, List.set_cons_zero, List.set_cons_succ]
              refine wpAnyH_ready (rs := [15]) (by kernel_rfl) (by simp) ?_
              refine AllReadyH.cons (o := ⟨none, _, _, _, _, _⟩) rfl (fun K hK => ?_) AllReadyH.nil
              refine step_store_row22 rfl 32 _ _ rfl _ #[.string X2, .string Y] ?hx ?hy 32 _ Xu4.out (sizeSg22 _ _) rfl (oneSg22 _ _) ?_
              case hx => go_simp
              case hy => go_simp
              have BF := hid (Below.setRow Bu4.out GXa3.out #[.string X2, .string Y])
              clear hHeld
              refine hK.out _ _ ?hSQac15 (fun hHeld => ?restQac15)
              case hSQac15 => exact CR.out _ BF.out
              clear hK K
              refine wpAnyH_done (by kernel_rfl) ?_ _
              refine NoPanic.normal ?_
              clear hHeld
              go_wp2
              go_meet
              exact ⟨_, X2, rfl, hX2, GXa3.out, hid (setRow_heap _ _ _ _ _ _ Xu4.out), BF⟩
          case rest =>
            revert wc
            intro w2 hcut
            obtain ⟨gx, X2, rfl, hX2, hgx, hGX, hB2⟩ := hcut
            go_upto_region 6 with fail
            have k1 := hGX.out.c1
            go_cut [56] from 48 to 56 (fun v56 w' => ∃ b : Bool, v56 = .bool b ∧ (b = false → Y.size ≤ 6000 ∧ 0 < Y.size) ∧ w' = w2)
            case first =>
              by_cases hY0 : Y.toList = []
              · go_wp2
                go_meet
                exact ⟨true, rfl, (fun e => by cases e), rfl⟩
              · by_cases hY1 : 6000 < Y.size
                · have hY2 : (6000 : Int) < (Y.size : Int) := by omega
                  go_wp2
                  go_meet
                  exact ⟨true, rfl, (fun e => by cases e), rfl⟩
                · have hY2 : ¬ (6000 : Int) < (Y.size : Int) := by omega
                  go_wp2
                  go_meet
                  exact ⟨_, rfl, (fun _ => ⟨by omega, Nat.pos_of_ne_zero fun e0 => hY0 (by rw [show Y = ByteArray.empty from ByteArray.ext (Array.eq_empty_of_size_eq_zero e0)]; exact empty22)⟩), rfl⟩
            case rest =>
            obtain ⟨b, rfl, hb, hw⟩ := hcut
            subst hw
            apply_assumption
            go_cut [] from 57 to 61 (fun w' => ∃ Y2 : ByteArray, (Y2.size ≤ 6000 ∧ 0 < Y2.size) ∧ Hid (Gx w' gx X2 Y2) ∧ Hid (Below wr.heap.size wr w'))
            case first =>
              cases b with
              | false =>
                go_wp2
                go_meet
                exact ⟨Y, hb (by first | rfl | trivial), hGX, hB2⟩
              | true =>
                have i5 := fun w' => hash22_any Y (by have := HYz.out; omega) w'
                have k2 : ∀ w', Below wc.heap.size wc w' → w'.cell? ⟨gx, 1, none⟩ = some (.string Y) ∧ w'.frozen? ⟨gx, 1, none⟩ = false := fun w' b => ⟨(hGX.out.below b).c1, frozen_of_row _ _ _ _ _ (hGX.out.below b)⟩
                have K2 := hid k2
                clear k2
                have fin : ∀ (w3 : World) (D2 : ByteArray), D2.size = 32 → Below wc.heap.size wc w3 → ∃ Y2 : ByteArray, (Y2.size ≤ 6000 ∧ 0 < Y2.size) ∧ Hid (Gx (w3.setCell ⟨gx, 1, none⟩ (.string ((⟨#[100]⟩ : ByteArray) ++ D2))) gx X2 Y2) ∧ Hid (Below wr.heap.size wr (w3.setCell ⟨gx, 1, none⟩ (.string ((⟨#[100]⟩ : ByteArray) ++ D2)))) := fun w3 D2 h32 b3 =>
                  ⟨(⟨#[100]⟩ : ByteArray) ++ D2, by rw [ByteArray.size_append, h32]; decide, (hGX.out.below b3).set1 _, (hB2.out.trans (b3.mono hB2.out.size)).setCell hgx _⟩
                have FIN := hid fin
                clear fin
                go_wp2_with (go_at_call 22; (refine (i5 _).mono ?_); rintro q w3 ⟨⟨D2, rfl, hD2⟩, b3⟩; obtain ⟨k3, k4⟩ := K2.out w3 b3; have dd : ¬ 9223372036854775807 < 1 + D2.size := (by omega); have H3 := hid (And.intro hD2 b3); clear hD2 b3)
                go_meet
                exact FIN.out _ _ H3.out.1 H3.out.2
            case rest =>
            revert wc
            intro w4 hcut
            obtain ⟨Y2, hY2, hG2, hB4⟩ := hcut
            have F4 := hid (hF.out.below hB4.out)
            clear hGX hB2 CR R0 i4 k1 hb HYz hF x0 hgx hB4
            go_wp2
            go_loopw [6] (fun i w' => ∃ k : Nat, i = .int .i64 (k : Int) ∧ k ≤ L.length ∧ Hid (Below w4.heap.size w4 w') ∧ Hid (∀ i x, i < k → L[i]? = some x → ltN x.1 X2 = true)) (fun i _ => L.length - (intOf i).toNat)
            case atStart => exact ⟨0, rfl, by omega, Below.refl _ _, fun i x h => absurd h (Nat.not_lt_zero _)⟩
            case round =>
              obtain ⟨k, rfl, hk, hB5, hLt⟩ := hrel
              have F5 := hid (F4.out.below hB5.out)
              have x3 := F5.out.x3.c3
              have G5 := hid (hG2.out.below hB5.out)
              have x5 := G5.out.c0
              have x6 := G5.out.c1
              have k0 : (0 : Int) ≤ (k : Int) := by omega
              by_cases h3 : k < L.length
              · have q5 : (k : Int) < (L.length : Int) := by omega
                obtain ⟨⟨M, MD⟩, hm⟩ : ∃ q, L[k]? = some q := ⟨_, List.getElem?_eq_getElem h3⟩
                obtain ⟨gb, cb, hv, cM, _⟩ := F5.out.own.cell (sgs_get hm).1
                obtain rfl : va = some ⟨gb, 0, none⟩ := by injection hv
                clear hv
                have hv3 : k < vc := by
                  obtain ⟨a9, c9, e9, hc9, _⟩ := F5.out.own.shape
                  injection e9 with _ _ e9
                  omega
                have hcb : k ≤ vc := by omega
                have hv1 : ¬ vc = k := by omega
                have hv2 : ¬ k = vc := by omega
                have hv4 : ¬ vc - k = 0 := by omega
                have hv5 : ¬ vc ≤ k := by omega
                have HM := hid hm
                cases hlt : Op.bytesLess M.toList X2.toList with
                | true =>
                  have HLT := hid hlt
                  go_wp2
                  go_quiet (fail)
                  go_wp2
                  exact ⟨⟨k + 1, by go_num, by omega, bw_drewN hB5.out _, hid fun i x hi hx => (by
                    by_cases hik : i < k
                    · exact hLt.out i x hik hx
                    · obtain rfl : i = k := by omega
                      rw [HM.out] at hx
                      cases hx
                      exact HLT.out)⟩, by simp [intOf]; omega⟩
                | false =>
                  have HLT := hid hlt
                  cases he : (M.toList == X2.toList) with
                  | true =>
                    go_wp2
                    go_quiet (fail)
                    go_wp2
                    go_quiet (fail)
                    go_wp2
                    exact ⟨⟨j + 1, _, L, by go_num, by omega, F5.out.drewN _⟩, by simp [intOf]; omega⟩
                  | false =>
                    have HTOT := hid (ltN_total hlt he)
                    go_wp2
                    go_quiet (fail)
                    go_wp2
                    go_quiet (fail)
                    go_upto_region 12 with fail
                    go_cut [7] from 96 to 96 (fun v7 w' => v7 = .slice none 0 0 ∧ Hid (Below w4.heap.size w4 w'))
                    case first =>
                      go_wp2
                      go_meet
                      exact ⟨rfl, bw_drewN (bw_drewN hB5.out _) _⟩
                    case rest =>
                    revert wc
                    intro w6 hcut
                    obtain ⟨rfl, B6⟩ := hcut
                    have F6 := hid (F4.out.below B6.out)
                    have G6 := hid (hG2.out.below B6.out)
                    have hA5 : AtF w6 (some ⟨gb, 0, none⟩) L := by
                      obtain ⟨a5, c5, e5, _, h5⟩ := ownM_atS F6.out.own
                      injection e5 with e5
                      rw [e5]
                      exact h5
                    have hT1 := hA5.take k
                    have hT2 : AtF w6 (some ⟨gb, k * 2, none⟩) (L.drop k) := hA5.drop22 k
                    obtain ⟨b1, d1, w7, b2, d2, w8, b3, d3, w9, r1, r2, r3, B7, B8, B9, o9, f9⟩ := ins_run w6 L k X2 Y2 (by omega) (by omega) (some ⟨gb, 0, none⟩) vc hT1 (some ⟨gb, k * 2, none⟩) (vc - k) hT2
                    have x3 := F6.out.x3.c3
                    have x37 := (F6.out.x3.below B7).c3
                    have x38 := (F6.out.x3.below B8).c3
                    have x39 := (F6.out.x3.below B9).c3
                    have fz9 : w9.frozen? ⟨g3, 3, none⟩ = false := frozen_of_row _ _ _ _ _ (F6.out.x3.below B9)
                    have xa7 := (G6.out.below B7).c0
                    have xb7 := (G6.out.below B7).c1
                    have eL : (L.take k ++ [(X2, Y2)] ++ L.drop k).length = L.length + 1 := by rw [List.length_append, List.length_append, List.length_take, List.length_drop, List.length_singleton]; omega
                    have FN : Fp W g3 N z' D (.slice b3 (L.length + 1) d3) (L.take k ++ [(X2, Y2)] ++ L.drop k) (w9.setCell ⟨g3, 3, none⟩ (.slice b3 (L.length + 1) d3)) := F6.out.ins HGE.out B9 (by rw [eL]; exact o9) f9 (by rw [eL]; omega) (fun x hx => by
                      rcases List.mem_append.1 hx with hx | hx
                      · rcases List.mem_append.1 hx with hx | hx
                        · exact F6.out.sz x (List.mem_of_mem_take hx)
                        · rw [List.mem_singleton] at hx; subst hx; exact ⟨hX2.1, hY2.1⟩
                      · exact F6.out.sz x (List.mem_of_mem_drop hx)) (ins_ok F6.out.ok hX2.2.out hY2 hLt.out (fun x hx => by rw [HM.out] at hx; cases hx; exact HTOT.out) (by omega))
                    have FN := hid FN
                    clear B7 B8 B9 o9 f9 eL
                    go_upto_region 13 with fail
                    go_upto_region 14 with ((with_reducible show wpList _ _ _ (Oper.mk _ (Op.call { callee := Callee.builtin Builtin.append, args := _, argTypes := #[24, 24] }) _ _ _ _ :: _) _ _); (refine Lib.wpList_append_run _ rfl _ _ 24 24 rfl (.slice none 0 0) (.slice (some ⟨gb, 0, none⟩) k vc) ?hs ?hx _ _ r1 ?_); (case hs => go_simp); (case hx => go_simp); clear r1)
                    go_upto_region 15 with ((with_reducible show wpList _ _ _ (Oper.mk _ (Op.call { callee := Callee.builtin Builtin.append, args := _, argTypes := #[24, 24] }) _ _ _ _ :: _) _ _); (refine Lib.wpList_append_run _ rfl _ _ 24 24 rfl (.slice b1 k d1) (.slice (some ⟨w7.heap.size, 0, none⟩) 1 1) ?hs ?hx _ _ r2 ?_); (case hs => go_simp); (case hx => go_simp); clear r2)
                    go_wp2_with ((with_reducible show wpList _ _ _ (Oper.mk _ (Op.call { callee := Callee.builtin Builtin.append, args := _, argTypes := #[24, 24] }) _ _ _ _ :: _) _ _); (refine Lib.wpList_append_run _ rfl _ _ 24 24 rfl (.slice b2 (k + 1) d2) (.slice (some ⟨gb, k * 2, none⟩) (L.length - k) (vc - k)) ?hs ?hx _ _ r3 ?_); (case hs => go_simp); (case hx => go_simp); clear r3)
                    exact ⟨⟨j + 1, _, _, by go_num, by omega, FN⟩, by simp [intOf]; omega⟩
              · have q5 : ¬ (k : Int) < (L.length : Int) := by omega
                have q6 : k ≤ L.length := by omega
                rcases F5.out.own with ⟨e, e0, _⟩ | ⟨gb, cb, e, hcb0, _⟩
                · have L0 : L = [] := List.length_eq_zero_iff.1 e0
                  subst L0
                  obtain rfl : va = none := by injection e
                  obtain rfl : vc = 0 := by injection e
                  obtain rfl : k = 0 := by simpa using hk
                  clear e e0 q5 q6 h3
                  go_wp2
                  go_quiet (fail)
                  go_wp2
                  go_quiet (fail)
                  go_upto_region 12 with fail
                  go_cut [7] from 96 to 96 (fun v7 w' => v7 = .slice none 0 0 ∧ Hid (Below w4.heap.size w4 w'))
                  case first =>
                    go_wp2
                    go_meet
                    exact ⟨rfl, bw_drewN (bw_drewN hB5.out _) _⟩
                  case rest =>
                  revert wc
                  intro w6 hcut
                  obtain ⟨rfl, B6⟩ := hcut
                  have F6 := hid (F4.out.below B6.out)
                  have G6 := hid (hG2.out.below B6.out)
                  obtain ⟨v2, w8, r2, o2, g2⟩ := append_sg w6 (.slice none 0 0) [] X2 Y2 (.inl ⟨rfl, rfl, rfl⟩) (by simp)
                  obtain ⟨B8, f8⟩ := grow_below g2 (Below.refl _ _) (fun k hk => by cases hk)
                  obtain ⟨b2, d2, rfl, -, -⟩ := o2.shape
                  have x3 := F6.out.x3.c3
                  have x38 := (F6.out.x3.below B8).c3
                  have xa6 := G6.out.c0
                  have xb6 := G6.out.c1
                  obtain ⟨v3, w9, r3, o3, gr3⟩ := append_sgs w8 (.slice b2 1 d2) [(X2, Y2)] [] none 0 o2 (fun i v h => by simp [sgs] at h) (by simp)
                  obtain ⟨B9, f9⟩ := grow_below gr3 B8 f8
                  obtain ⟨b3, d3, rfl, -, -⟩ := o3.shape
                  have x39 := (F6.out.x3.below B9).c3
                  have fz9 : w9.frozen? ⟨g3, 3, none⟩ = false := frozen_of_row _ _ _ _ _ (F6.out.x3.below B9)
                  have FN : Fp W g3 N z' D (.slice b3 1 d3) [(X2, Y2)] (w9.setCell ⟨g3, 3, none⟩ (.slice b3 1 d3)) := F6.out.ins HGE.out B9 o3 f9 (by show 1 ≤ 16; omega) (fun x hx => by rw [List.mem_singleton] at hx; subst hx; exact ⟨hX2.1, hY2.1⟩) (ins_ok (L := []) (k := 0) rfl hX2.2.out hY2 (fun i x h => absurd h (Nat.not_lt_zero _)) (fun x hx => by simp at hx) (Nat.le_refl _))
                  have FNH := hid FN
                  have r2 : (Builtin.append_ #[24, 24] 24 #[.slice none 0 0, .slice (some ⟨w6.heap.size, 0, none⟩) 1 1]).run Tryz.prog (w6.alloc (.cells #[.string X2, .string Y2] 32)) = .ok (.slice b2 1 d2) w8 := r2
                  have r3 : (Builtin.append_ #[24, 24] 24 #[.slice b2 1 d2, .slice none 0 0]).run Tryz.prog w8 = .ok (.slice b3 1 d3) w9 := r3
                  clear B9 o3 f9 gr3 FN
                  clear B8 o2 f8 g2
                  go_upto_region 14 with fail
                  go_upto_region 15 with ((with_reducible show wpList _ _ _ (Oper.mk _ (Op.call { callee := Callee.builtin Builtin.append, args := _, argTypes := #[24, 24] }) _ _ _ _ :: _) _ _); (refine Lib.wpList_append_run _ rfl _ _ 24 24 rfl (.slice none 0 0) (.slice (some ⟨w6.heap.size, 0, none⟩) 1 1) ?hs ?hx _ _ r2 ?_); (case hs => go_simp); (case hx => go_simp); clear r2)
                  go_wp2_with ((with_reducible show wpList _ _ _ (Oper.mk _ (Op.call { callee := Callee.builtin Builtin.append, args := _, argTypes := #[24, 24] }) _ _ _ _ :: _) _ _); (refine Lib.wpList_append_run _ rfl _ _ 24 24 rfl (.slice b2 1 d2) (.slice none 0 0) ?hs ?hx _ _ r3 ?_); (case hs => go_simp); (case hx => go_simp); clear r3)
                  exact ⟨⟨j + 1, _, _, by go_num, by omega, FNH⟩, by simp [intOf]; omega⟩
                · obtain rfl : va = some ⟨gb, 0, none⟩ := by injection e
                  have hcb : k ≤ vc := by injection e with _ _ e2; omega
                  clear e hcb0
                  by_cases hv1 : vc = k
                  · subst hv1
                    clear hcb
                    go_wp2
                    go_quiet (fail)
                    go_wp2
                    go_quiet (fail)
                    go_upto_region 12 with fail
                    go_cut [7] from 96 to 96 (fun v7 w' => v7 = .slice none 0 0 ∧ Hid (Below w4.heap.size w4 w'))
                    case first =>
                      go_wp2
                      go_meet
                      exact ⟨rfl, bw_drewN (bw_drewN hB5.out _) _⟩
                    case rest =>
                    revert wc
                    intro w6 hcut
                    obtain ⟨rfl, B6⟩ := hcut
                    have F6 := hid (F4.out.below B6.out)
                    have G6 := hid (hG2.out.below B6.out)
                    have hA5 : AtF w6 (some ⟨gb, 0, none⟩) L := by
                      obtain ⟨a5, c5, e5, _, h5⟩ := ownM_atS F6.out.own
                      injection e5 with e5
                      rw [e5]
                      exact h5
                    have hT1 := hA5.take vc
                    have hT2 : AtF w6 (some ⟨gb, 0, none⟩) (L.drop vc) := fun i v h => by rw [List.drop_eq_nil_of_le (by omega)] at h; simp [sgs] at h
                    obtain ⟨b1, d1, w7, b2, d2, w8, b3, d3, w9, r1, r2, r3, B7, B8, B9, o9, f9⟩ := ins_run w6 L vc X2 Y2 (by omega) (by omega) (some ⟨gb, 0, none⟩) vc hT1 (some ⟨gb, 0, none⟩) 0 hT2
                    have x3 := F6.out.x3.c3
                    have x37 := (F6.out.x3.below B7).c3
                    have x38 := (F6.out.x3.below B8).c3
                    have x39 := (F6.out.x3.below B9).c3
                    have fz9 : w9.frozen? ⟨g3, 3, none⟩ = false := frozen_of_row _ _ _ _ _ (F6.out.x3.below B9)
                    have xa7 := (G6.out.below B7).c0
                    have xb7 := (G6.out.below B7).c1
                    have eL : (L.take vc ++ [(X2, Y2)] ++ L.drop vc).length = L.length + 1 := by rw [List.length_append, List.length_append, List.length_take, List.length_drop, List.length_singleton]; omega
                    have FN : Fp W g3 N z' D (.slice b3 (L.length + 1) d3) (L.take vc ++ [(X2, Y2)] ++ L.drop vc) (w9.setCell ⟨g3, 3, none⟩ (.slice b3 (L.length + 1) d3)) := F6.out.ins HGE.out B9 (by rw [eL]; exact o9) f9 (by rw [eL]; omega) (fun x hx => by
                      rcases List.mem_append.1 hx with hx | hx
                      · rcases List.mem_append.1 hx with hx | hx
                        · exact F6.out.sz x (List.mem_of_mem_take hx)
                        · rw [List.mem_singleton] at hx; subst hx; exact ⟨hX2.1, hY2.1⟩
                      · exact F6.out.sz x (List.mem_of_mem_drop hx)) (ins_ok F6.out.ok hX2.2.out hY2 hLt.out (fun x hx => by have := (List.getElem?_eq_some_iff.1 hx).1; omega) (by omega))
                    have FN := hid FN
                    clear B7 B8 B9 o9 f9 eL
                    go_upto_region 13 with fail
                    go_upto_region 14 with ((with_reducible show wpList _ _ _ (Oper.mk _ (Op.call { callee := Callee.builtin Builtin.append, args := _, argTypes := #[24, 24] }) _ _ _ _ :: _) _ _); (refine Lib.wpList_append_run _ rfl _ _ 24 24 rfl (.slice none 0 0) (.slice (some ⟨gb, 0, none⟩) vc vc) ?hs ?hx _ _ r1 ?_); (case hs => go_simp); (case hx => go_simp); clear r1)
                    go_upto_region 15 with ((with_reducible show wpList _ _ _ (Oper.mk _ (Op.call { callee := Callee.builtin Builtin.append, args := _, argTypes := #[24, 24] }) _ _ _ _ :: _) _ _); (refine Lib.wpList_append_run _ rfl _ _ 24 24 rfl (.slice b1 vc d1) (.slice (some ⟨w7.heap.size, 0, none⟩) 1 1) ?hs ?hx _ _ r2 ?_); (case hs => go_simp); (case hx => go_simp); clear r2)
                    go_wp2_with ((with_reducible show wpList _ _ _ (Oper.mk _ (Op.call { callee := Callee.builtin Builtin.append, args := _, argTypes := #[24, 24] }) _ _ _ _ :: _) _ _); (refine Lib.wpList_append_run _ rfl _ _ 24 24 rfl (.slice b2 (vc + 1) d2) (.slice (some ⟨gb, 0, none⟩) (L.length - vc) 0) ?hs ?hx _ _ r3 ?_); (case hs => go_simp); (case hx => go_simp); clear r3)
                    exact ⟨⟨j + 1, _, _, by go_num, by omega, FN⟩, by simp [intOf]; omega⟩
                  · have hv2 : ¬ k = vc := by omega
                    have hv3 : k < vc := by omega
                    have hv4 : ¬ vc - k = 0 := by omega
                    have hv5 : ¬ vc ≤ k := by omega
                    go_wp2
                    go_quiet (fail)
                    go_wp2
                    go_quiet (fail)
                    go_upto_region 12 with fail
                    go_cut [7] from 96 to 96 (fun v7 w' => v7 = .slice none 0 0 ∧ Hid (Below w4.heap.size w4 w'))
                    case first =>
                      go_wp2
                      go_meet
                      exact ⟨rfl, bw_drewN (bw_drewN hB5.out _) _⟩
                    case rest =>
                    revert wc
                    intro w6 hcut
                    obtain ⟨rfl, B6⟩ := hcut
                    have F6 := hid (F4.out.below B6.out)
                    have G6 := hid (hG2.out.below B6.out)
                    have hA5 : AtF w6 (some ⟨gb, 0, none⟩) L := by
                      obtain ⟨a5, c5, e5, _, h5⟩ := ownM_atS F6.out.own
                      injection e5 with e5
                      rw [e5]
                      exact h5
                    have hT1 := hA5.take k
                    have hT2 : AtF w6 (some ⟨gb, k * 2, none⟩) (L.drop k) := hA5.drop22 k
                    obtain ⟨b1, d1, w7, b2, d2, w8, b3, d3, w9, r1, r2, r3, B7, B8, B9, o9, f9⟩ := ins_run w6 L k X2 Y2 (by omega) (by omega) (some ⟨gb, 0, none⟩) vc hT1 (some ⟨gb, k * 2, none⟩) (vc - k) hT2
                    have x3 := F6.out.x3.c3
                    have x37 := (F6.out.x3.below B7).c3
                    have x38 := (F6.out.x3.below B8).c3
                    have x39 := (F6.out.x3.below B9).c3
                    have fz9 : w9.frozen? ⟨g3, 3, none⟩ = false := frozen_of_row _ _ _ _ _ (F6.out.x3.below B9)
                    have xa7 := (G6.out.below B7).c0
                    have xb7 := (G6.out.below B7).c1
                    have eL : (L.take k ++ [(X2, Y2)] ++ L.drop k).length = L.length + 1 := by rw [List.length_append, List.length_append, List.length_take, List.length_drop, List.length_singleton]; omega
                    have FN : Fp W g3 N z' D (.slice b3 (L.length + 1) d3) (L.take k ++ [(X2, Y2)] ++ L.drop k) (w9.setCell ⟨g3, 3, none⟩ (.slice b3 (L.length + 1) d3)) := F6.out.ins HGE.out B9 (by rw [eL]; exact o9) f9 (by rw [eL]; omega) (fun x hx => by
                      rcases List.mem_append.1 hx with hx | hx
                      · rcases List.mem_append.1 hx with hx | hx
                        · exact F6.out.sz x (List.mem_of_mem_take hx)
                        · rw [List.mem_singleton] at hx; subst hx; exact ⟨hX2.1, hY2.1⟩
                      · exact F6.out.sz x (List.mem_of_mem_drop hx)) (ins_ok F6.out.ok hX2.2.out hY2 hLt.out (fun x hx => by have := (List.getElem?_eq_some_iff.1 hx).1; omega) (by omega))
                    have FN := hid FN
                    clear B7 B8 B9 o9 f9 eL
                    go_upto_region 13 with fail
                    go_upto_region 14 with ((with_reducible show wpList _ _ _ (Oper.mk _ (Op.call { callee := Callee.builtin Builtin.append, args := _, argTypes := #[24, 24] }) _ _ _ _ :: _) _ _); (refine Lib.wpList_append_run _ rfl _ _ 24 24 rfl (.slice none 0 0) (.slice (some ⟨gb, 0, none⟩) k vc) ?hs ?hx _ _ r1 ?_); (case hs => go_simp); (case hx => go_simp); clear r1)
                    go_upto_region 15 with ((with_reducible show wpList _ _ _ (Oper.mk _ (Op.call { callee := Callee.builtin Builtin.append, args := _, argTypes := #[24, 24] }) _ _ _ _ :: _) _ _); (refine Lib.wpList_append_run _ rfl _ _ 24 24 rfl (.slice b1 k d1) (.slice (some ⟨w7.heap.size, 0, none⟩) 1 1) ?hs ?hx _ _ r2 ?_); (case hs => go_simp); (case hx => go_simp); clear r2)
                    go_wp2_with ((with_reducible show wpList _ _ _ (Oper.mk _ (Op.call { callee := Callee.builtin Builtin.append, args := _, argTypes := #[24, 24] }) _ _ _ _ :: _) _ _); (refine Lib.wpList_append_run _ rfl _ _ 24 24 rfl (.slice b2 (k + 1) d2) (.slice (some ⟨gb, k * 2, none⟩) (L.length - k) (vc - k)) ?hs ?hx _ _ r3 ?_); (case hs => go_simp); (case hx => go_simp); clear r3)
                    exact ⟨⟨j + 1, _, _, by go_num, by omega, FN⟩, by simp [intOf]; omega⟩
        · have q2 : ¬ (L.length : Int) < 16 := by omega
          have y3 : Bx wr (g + 1) ⟨#[]⟩ 0 ⟨#[]⟩ (.slice none 0 0) := HS1.out.below hF.out.b
          go_wp2_with (first
            | ((with_reducible show wpList _ _ _ (Oper.mk _ (Op.load 26 _) _ _ _ _ :: _) _ _); go_must (refine wpList_load_row rfl 26 _ rfl g3 rfl 26 _ (0, 0) _ hF.out.x3 Tryz.underlying26 rfl (sizeNt22 _ _ _ _) ?_))
            | ((with_reducible show wpList _ _ _ (Oper.mk _ (Op.store 26 _ _) _ _ _ _ :: _) _ _); go_must (refine wpList_store_row rfl 26 _ _ rfl (g + 1) _ rfl rfl 26 _ y3 (sizeNt22 _ _ _ _) rfl (oneNt22 _ _ _ _ _ _) ?_)))
          have hg := HG.out
          have hZ := HZ2.out
          have hge := HGE.out
          have hown := hF.out.own.kept (w' := wr.setRow (g + 1) #[Value.string N, Value.int IntKind.i64 z', Value.string D, Value.slice va L.length vc]) (by rw [setRow_size]; exact Nat.le_refl _) (fun k hk => setRow_other _ _ _ _ (by have := hF.out.fr k hk; omega))
          obtain ⟨a', cap', e, hA1, hA2⟩ := ownM_atS hown
          injection e with e1 e2 e3
          subst e1 e3
          obtain ⟨hN, hD, hz⟩ := HND.out
          refine bodyPost_ret (results_cell_row rfl _ _ (g + 1) 26 _ (0, 0) _ rfl (setRow_heap _ _ _ _ _ _ y3) Tryz.underlying26 rfl (sizeNt22 _ _ _ _)) rfl ⟨⟨N, z', D, L, va, ⟨vc, rfl⟩, hA1, hA2, hL, hN, hD, hz, hid hF.out.ok, fun x y hxy => hF.out.sz (x, y) hxy⟩, ?_⟩
          exact Below.setRow (HB1.out.trans (hF.out.b.mono HB1.out.size)) (by omega) _
      · have q1 : ¬ (j : Int) < (n : Int) := by omega
        have y3 : Bx wr (g + 1) ⟨#[]⟩ 0 ⟨#[]⟩ (.slice none 0 0) := HS1.out.below hF.out.b
        go_wp2_with (first
          | ((with_reducible show wpList _ _ _ (Oper.mk _ (Op.load 26 _) _ _ _ _ :: _) _ _); go_must (refine wpList_load_row rfl 26 _ rfl g3 rfl 26 _ (0, 0) _ hF.out.x3 Tryz.underlying26 rfl (sizeNt22 _ _ _ _) ?_))
          | ((with_reducible show wpList _ _ _ (Oper.mk _ (Op.store 26 _ _) _ _ _ _ :: _) _ _); go_must (refine wpList_store_row rfl 26 _ _ rfl (g + 1) _ rfl rfl 26 _ y3 (sizeNt22 _ _ _ _) rfl (oneNt22 _ _ _ _ _ _) ?_)))
        have hg := HG.out
        have hZ := HZ2.out
        have hge := HGE.out
        have hown := hF.out.own.kept (w' := wr.setRow (g + 1) #[Value.string N, Value.int IntKind.i64 z', Value.string D, Value.slice va L.length vc]) (by rw [setRow_size]; exact Nat.le_refl _) (fun k hk => setRow_other _ _ _ _ (by have := hF.out.fr k hk; omega))
        obtain ⟨a', cap', e, hA1, hA2⟩ := ownM_atS hown
        injection e with e1 e2 e3
        subst e1 e3
        obtain ⟨hN, hD, hz⟩ := HND.out
        refine bodyPost_ret (results_cell_row rfl _ _ (g + 1) 26 _ (0, 0) _ rfl (setRow_heap _ _ _ _ _ _ y3) Tryz.underlying26 rfl (sizeNt22 _ _ _ _)) rfl ⟨⟨N, z', D, L, va, ⟨vc, rfl⟩, hA1, hA2, hL, hN, hD, hz, hid hF.out.ok, fun x y hxy => hF.out.sz (x, y) hxy⟩, ?_⟩
        exact Below.setRow (HB1.out.trans (hF.out.b.mono HB1.out.size)) (by omega) _
theorem fitted22_any (O R : ByteArray) (z : Int) (hO : O.size ≤ 9223372036854775807) (hR : R.size ≤ 140737488355000) (hz1 : -9223372036854775808 ≤ z) (hz2 : z ≤ 9223372036854775807) (S : List Sg) (n : Nat) (hn : Hid (S.length = n)) (hn2 : n ≤ 4398046511000) (hS : ∀ x ∈ S, x.1.size ≤ 9223372036854775807 ∧ x.2.size ≤ 140737488355000) (a : Option Addr) (c : Nat) (w : World) (hA : AtS w a S) :
    Calls Tryz.prog 8 #[nv O z R (.slice a n c)] w fun q w' => (∃ (O' : ByteArray) (z' : Int) (R' : ByteArray) (S' : List Sg) (a' : Option Addr) (c' : Nat), q = .returned (nv O' z' R' (.slice a' S'.length c')) ∧ AtS w' a' S' ∧ AtF w' a' S' ∧ S'.length ≤ 16 ∧ O'.size ≤ 32 ∧ R'.size = 32 ∧ (0 ≤ z' ∧ z' < 1099511627777) ∧ ∀ x ∈ S', x.1.size ≤ 32 ∧ x.2.size ≤ 6000) ∧ Below w.heap.size w w' :=
  (fitted22_nm O R z hO hR hz1 hz2 S n hn hn2 hS a c w hA).mono fun _ _ ⟨⟨O', z', R', S', a', c', h1, h2, h3, h4, h5, h6, h7, _, h8⟩, b⟩ => ⟨⟨O', z', R', S', a', c', h1, h2, h3, h4, h5.1, h6, h7, h8⟩, b⟩
end Nt
end Go.Proofs.YtdbbemcddhgbcaaGreatDoor
