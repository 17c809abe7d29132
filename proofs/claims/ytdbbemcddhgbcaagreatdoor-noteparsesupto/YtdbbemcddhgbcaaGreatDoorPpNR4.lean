import Derived.Test.YtdbbemcddhgbcaaGreatDoorPpNR1
/- Layer 22, the law: holds (written by genNR4.py) -/
namespace Go.Proofs.YtdbbemcddhgbcaaGreatDoor
open Go.RowKit Go.Shelf
namespace Nt
def Bc (w : World) (g : Nat) (O : ByteArray) (z : Int) (R : ByteArray) (v : Value) : Prop := w.cell? ⟨g, 0, none⟩ = some (.string O) ∧ w.cell? ⟨g, 1, none⟩ = some (.int .i64 z) ∧ w.cell? ⟨g, 2, none⟩ = some (.string R) ∧ w.cell? ⟨g, 3, none⟩ = some v
theorem Bx.bc {w : World} {g : Nat} {O R : ByteArray} {z : Int} {v : Value} (h : Bx w g O z R v) : Bc w g O z R v := ⟨h.c0, h.c1, h.c2, h.c3⟩
theorem Bx.al {w : World} {g : Nat} {O R : ByteArray} {z : Int} {v : Value} (h : Bx w g O z R v) (o : Obj) : Bx (w.alloc o) g O z R v := h.below ((Below.refl _ _).alloc (Nat.le_refl _) _)
theorem Kx.al {w : World} {gb : Nat} {nV wV lV : Value} (h : Kx w gb nV wV lV) (o : Obj) : Kx (w.alloc o) gb nV wV lV := h.kept (((Below.refl w.heap.size w).alloc (Nat.le_refl _) o).block gb (lt_of_heap h))
set_option maxRecDepth 100000 in
set_option maxHeartbeats 8000000 in
theorem holds22_any {ρ : Nat → Nat} {w : World} {gb : Nat} {E : List En} {nV wV lV : Value} (h : Bk ρ w gb E nV wV lV) (t : Nr) (n : Nat) (hn : t.S.length = n) (hn16 : n ≤ 16) (hE : E.length < 100) (a a' : Option Addr) (c c' : Nat) (hv : Rl ρ (5 + E.length) 2 w (.slice a n c) n (sgs t.S)) (hu : Rl ρ 3 2 w (.slice a' n c') n (sgs t.S)) :
    Calls Tryz.prog 25 #[.pointer (some ⟨gb, 0, none⟩), nv t.O t.z t.R (.slice a n c), nv t.O t.z t.R (.slice a' n c')] w fun e w' => e = .returned (.tuple #[]) ∧ ∃ ρ' nV' wV', Bk ρ' w' gb (E ++ [(t, .slice a n c, .slice a' n c')]) nV' wV' lV ∧ Stp (fun r => r < 3) ρ ρ' w w' := by
  obtain ⟨W1, hW1⟩ : ∃ W1, (w.alloc (.cells #[.string t.O, .int .i64 t.z, .string t.R, .slice a n c] 26)).alloc (.cells #[.string t.O, .int .i64 t.z, .string t.R, .slice a' n c'] 26) = W1 := ⟨_, rfl⟩
  obtain ⟨nV', w3, wV', w5, ρ', r1, r2, k2, k3, x2, k4, x4, k5, ⟨x3, x34, x5, x6⟩, hB, hS⟩ := push22 h t n hn hn16 hE a a' c c' hv hu W1 hW1
  obtain ⟨aN, cN, hnV, -, -⟩ := h.ln.own.shape
  obtain ⟨aW, cW, hwV, -, -⟩ := h.lw.own.shape
  obtain ⟨aN', cN', hnV', -, -⟩ := hB.ln.own.shape
  obtain ⟨aW', cW', hwV', -, -⟩ := hB.lw.own.shape
  rw [List.length_append, List.length_singleton] at hnV' hwV'
  have HW := hid hW1
  have HB := hid hB
  have HS := hid hS
  have K2 := hid k2
  have K3 := hid k3
  have K4 := hid k4
  have K5 := hid k5
  have X2 := hid x2
  have X3 := hid x3
  have X34 := hid x34
  have X4 := hid x4
  have X5 := hid x5
  have X6 := hid x6
  have e2 := k2.c0
  have e2a : (W1.alloc (.cells #[.string t.O, .int .i64 t.z, .string t.R, .slice a n c] 26)).cell? ⟨gb, 0, none⟩ = some nV := ((show Kx W1 gb nV wV lV from k2).al _).c0
  have e3 := k3.c0
  have e4 := k4.c1
  have e4a : ((w3.setCell ⟨gb, 0, none⟩ nV').alloc (.cells #[.string t.O, .int .i64 t.z, .string t.R, .slice a' n c'] 26)).cell? ⟨gb, 1, none⟩ = some wV := ((show Kx (w3.setCell ⟨gb, 0, none⟩ nV') gb nV' wV lV from k4).al _).c1
  have f3 : w3.frozen? ⟨gb, 0, none⟩ = false := frozen_of_row _ _ _ _ _ k3
  have f5 : w5.frozen? ⟨gb, 1, none⟩ = false := frozen_of_row _ _ _ _ _ k5
  have e5 := k5.c1
  clear h hv hu hW1 hB hS k2 k3 x2 k4 x4 k5 x3 x34 x5 x6
  obtain ⟨tO, tz, tR, tS⟩ := t
  dsimp only at *
  unfold nv
  go_enter Tryz.func25, Tryz.ntmps25
  go_upto_region 1 with fail
  rw [HW.out]
  obtain ⟨g, hg⟩ : ∃ g, w.heap.size = g := ⟨_, rfl⟩
  rw [hg] at X2 X3 X34 X4 X5 X6 ⊢
  clear hg
  subst hnV hwV hnV' hwV'
  refine wp_region_noPanic ?_
  refine wp_region_held_drew (S := fun W => W.cell? ⟨g, 0, none⟩ = some (.string tO) ∧ W.cell? ⟨g, 1, none⟩ = some (.int .i64 tz) ∧ W.cell? ⟨g, 2, none⟩ = some (.string tR) ∧ W.cell? ⟨g, 3, none⟩ = some (.slice a n c)) (by kernel_rfl) X2.out.bc (fun hHeld => ?_)
  refine wpAnyH_take (i := 0) (oi := ⟨some 6, _, _, _, _, _⟩) (v := ?vPT0) rfl (by kernel_rfl) (by kernel_rfl) (by kernel_rfl) (fun _ _ _ h => h) (Or.inl ⟨by rfl, ?hyPT0⟩) (by assumption) ?restPT0
  case hyPT0 => (intro w hSw; (try dsimp only at hSw); go_simp <;> (try with_reducible rfl))
  try simp only [Act.put, List.setIfInBounds_toArray, List.set_cons_zero, List.set_cons_succ]
  refine wpAnyH_take (i := 1) (oi := ⟨some 7, _, _, _, _, _⟩) (v := ?vPT1) rfl (by kernel_rfl) (by kernel_rfl) (by kernel_rfl) (fun _ _ _ h => h) (Or.inl ⟨by rfl, ?hyPT1⟩) (by assumption) ?restPT1
  case hyPT1 => (intro w hSw; (try dsimp only at hSw); go_simp <;> (try with_reducible rfl))
  try simp only [Act.put, List.setIfInBounds_toArray, List.set_cons_zero, List.set_cons_succ]
  refine wpAnyH_take (i := 2) (oi := ⟨some 8, _, _, _, _, _⟩) (v := ?vPT2) rfl (by kernel_rfl) (by kernel_rfl) (by kernel_rfl) (fun _ _ _ h => h) (Or.inl ⟨by rfl, ?hyPT2⟩) (by assumption) ?restPT2
  case hyPT2 => (intro w hSw; (try dsimp only at hSw); go_simp <;> (try with_reducible rfl))
  try simp only [Act.put, List.setIfInBounds_toArray, List.set_cons_zero, List.set_cons_succ]
  refine wpAnyH_take (i := 3) (oi := ⟨some 9, _, _, _, _, _⟩) (v := ?vPT3) rfl (by kernel_rfl) (by kernel_rfl) (by kernel_rfl) (fun _ _ _ h => h) (Or.inl ⟨by rfl, ?hyPT3⟩) (by assumption) ?restPT3
  case hyPT3 => (intro w hSw; (try dsimp only at hSw); go_simp <;> (try with_reducible rfl))
  try simp only [Act.put, List.setIfInBounds_toArray, List.set_cons_zero, List.set_cons_succ]
  refine wpAnyH_take (i := 5) (oi := ⟨some 11, _, _, _, _, _⟩) (v := ?vPT5) rfl (by kernel_rfl) (by kernel_rfl) (by kernel_rfl) (fun _ _ _ h => h) (Or.inl ⟨by rfl, ?hyPT5⟩) (by assumption) ?restPT5
  case hyPT5 => (intro w hSw; (try dsimp only at hSw); go_simp <;> (try with_reducible rfl))
  try simp only [Act.put, List.setIfInBounds_toArray, List.set_cons_zero, List.set_cons_succ]
  refine wpAnyH_ready (rs := [4, 6]) (by kernel_rfl) (by simp) ?_
  refine AllReadyH.cons (o := ⟨some 10, _, _, _, _, _⟩) rfl (fun K hK => ?_) (AllReadyH.cons (o := ⟨some 12, _, _, _, _, _⟩) rfl (fun K hK => ?_) AllReadyH.nil)
  · go_simp
    clear hHeld
    refine hK.out _ _ ?hSPB4 (fun hHeld => ?restPB4)
    case hSPB4 => exact X2.out.bc
    clear hK K
    try simp only [Act.put, List.setIfInBounds_toArray, List.set_cons_zero, List.set_cons_succ]
    refine wpAnyH_ready (rs := [6]) (by kernel_rfl) (by simp) ?_
    refine AllReadyH.cons (o := ⟨some 12, _, _, _, _, _⟩) rfl (fun K hK => ?_) AllReadyH.nil
    go_simp
    clear hHeld
    refine hK.out _ _ ?hSPB6 (fun hHeld => ?restPB6)
    case hSPB6 => exact (X2.out.al _).bc
    clear hK K
    try simp only [Act.put, List.setIfInBounds_toArray, List.set_cons_zero, List.set_cons_succ]
    refine wpAnyH_ready (rs := [7]) (by kernel_rfl) (by simp) ?_
    refine AllReadyH.cons (o := ⟨some 13, _, _, _, _, _⟩) rfl (fun K hK => ?_) AllReadyH.nil
    refine step_app22 rfl _ _ 35 rfl (.slice aN E.length cN) (.slice (some ⟨W1.drew.heap.size, 0, none⟩) 1 1) _ w3 ?hs ?hx r1 ?_
    case hs => go_simp
    case hx => go_simp
    clear hHeld
    refine hK.out _ _ ?hSPB7 (fun hHeld => ?restPB7)
    case hSPB7 => exact X3.out.bc
    clear hK K
    try simp only [Act.put, List.setIfInBounds_toArray, List.set_cons_zero, List.set_cons_succ]
    refine wpAnyH_take (i := 8) (oi := ⟨some 14, _, _, _, _, _⟩) (v := ?vPB8) rfl (by kernel_rfl) (by kernel_rfl) (by kernel_rfl) (fun _ _ _ h => h) (Or.inl ⟨by rfl, ?hyPB8⟩) (by assumption) ?restPB8
    case hyPB8 => (intro w hSw; (try dsimp only at hSw); go_simp <;> (try with_reducible rfl))
    try simp only [Act.put, List.setIfInBounds_toArray, List.set_cons_zero, List.set_cons_succ]
    refine wpAnyH_take (i := 9) (oi := ⟨some 15, _, _, _, _, _⟩) (v := ?vPB9) rfl (by kernel_rfl) (by kernel_rfl) (by kernel_rfl) (fun _ _ _ h => h) (Or.inl ⟨by rfl, ?hyPB9⟩) (by assumption) ?restPB9
    case hyPB9 => (intro w hSw; (try dsimp only at hSw); go_simp <;> (try with_reducible rfl))
    try simp only [Act.put, List.setIfInBounds_toArray, List.set_cons_zero, List.set_cons_succ]
    refine wpAnyH_ready (rs := [10]) (by kernel_rfl) (by simp) ?_
    refine AllReadyH.cons (o := ⟨none, _, _, _, _, _⟩) rfl (fun K hK => ?_) AllReadyH.nil
    go_simp
    clear hHeld
    refine hK.out _ _ ?hSPB10 (fun hHeld => ?restPB10)
    case hSPB10 => exact X34.out.bc
    clear hK K
    try simp only [Act.put, List.setIfInBounds_toArray, List.set_cons_zero, List.set_cons_succ]
    refine wpAnyH_done (by kernel_rfl) ?_ _
    refine NoPanic.normal ?_
    clear hHeld
    go_upto_region 2 with fail
    refine wp_region_noPanic ?_
    refine wp_region_held_drew (S := fun W => W.cell? ⟨(g + 1), 0, none⟩ = some (.string tO) ∧ W.cell? ⟨(g + 1), 1, none⟩ = some (.int .i64 tz) ∧ W.cell? ⟨(g + 1), 2, none⟩ = some (.string tR) ∧ W.cell? ⟨(g + 1), 3, none⟩ = some (.slice a' n c')) (by kernel_rfl) X4.out.bc (fun hHeld => ?_)
    refine wpAnyH_take (i := 0) (oi := ⟨some 16, _, _, _, _, _⟩) (v := ?vPBrT0) rfl (by kernel_rfl) (by kernel_rfl) (by kernel_rfl) (fun _ _ _ h => h) (Or.inl ⟨by rfl, ?hyPBrT0⟩) (by assumption) ?restPBrT0
    case hyPBrT0 => (intro w hSw; (try dsimp only at hSw); go_simp <;> (try with_reducible rfl))
    try simp only [Act.put, List.setIfInBounds_toArray, List.set_cons_zero, List.set_cons_succ]
    refine wpAnyH_take (i := 1) (oi := ⟨some 17, _, _, _, _, _⟩) (v := ?vPBrT1) rfl (by kernel_rfl) (by kernel_rfl) (by kernel_rfl) (fun _ _ _ h => h) (Or.inl ⟨by rfl, ?hyPBrT1⟩) (by assumption) ?restPBrT1
    case hyPBrT1 => (intro w hSw; (try dsimp only at hSw); go_simp <;> (try with_reducible rfl))
    try simp only [Act.put, List.setIfInBounds_toArray, List.set_cons_zero, List.set_cons_succ]
    refine wpAnyH_take (i := 2) (oi := ⟨some 18, _, _, _, _, _⟩) (v := ?vPBrT2) rfl (by kernel_rfl) (by kernel_rfl) (by kernel_rfl) (fun _ _ _ h => h) (Or.inl ⟨by rfl, ?hyPBrT2⟩) (by assumption) ?restPBrT2
    case hyPBrT2 => (intro w hSw; (try dsimp only at hSw); go_simp <;> (try with_reducible rfl))
    try simp only [Act.put, List.setIfInBounds_toArray, List.set_cons_zero, List.set_cons_succ]
    refine wpAnyH_take (i := 3) (oi := ⟨some 19, _, _, _, _, _⟩) (v := ?vPBrT3) rfl (by kernel_rfl) (by kernel_rfl) (by kernel_rfl) (fun _ _ _ h => h) (Or.inl ⟨by rfl, ?hyPBrT3⟩) (by assumption) ?restPBrT3
    case hyPBrT3 => (intro w hSw; (try dsimp only at hSw); go_simp <;> (try with_reducible rfl))
    try simp only [Act.put, List.setIfInBounds_toArray, List.set_cons_zero, List.set_cons_succ]
    refine wpAnyH_take (i := 5) (oi := ⟨some 21, _, _, _, _, _⟩) (v := ?vPBrT5) rfl (by kernel_rfl) (by kernel_rfl) (by kernel_rfl) (fun _ _ _ h => h) (Or.inl ⟨by rfl, ?hyPBrT5⟩) (by assumption) ?restPBrT5
    case hyPBrT5 => (intro w hSw; (try dsimp only at hSw); go_simp <;> (try with_reducible rfl))
    try simp only [Act.put, List.setIfInBounds_toArray, List.set_cons_zero, List.set_cons_succ]
    refine wpAnyH_ready (rs := [4, 6]) (by kernel_rfl) (by simp) ?_
    refine AllReadyH.cons (o := ⟨some 20, _, _, _, _, _⟩) rfl (fun K hK => ?_) (AllReadyH.cons (o := ⟨some 22, _, _, _, _, _⟩) rfl (fun K hK => ?_) AllReadyH.nil)
    · go_simp
      clear hHeld
      refine hK.out _ _ ?hSPBrB4 (fun hHeld => ?restPBrB4)
      case hSPBrB4 => exact X4.out.bc
      clear hK K
      try simp only [Act.put, List.setIfInBounds_toArray, List.set_cons_zero, List.set_cons_succ]
      refine wpAnyH_ready (rs := [6]) (by kernel_rfl) (by simp) ?_
      refine AllReadyH.cons (o := ⟨some 22, _, _, _, _, _⟩) rfl (fun K hK => ?_) AllReadyH.nil
      go_simp
      clear hHeld
      refine hK.out _ _ ?hSPBrB6 (fun hHeld => ?restPBrB6)
      case hSPBrB6 => exact (X4.out.al _).bc
      clear hK K
      try simp only [Act.put, List.setIfInBounds_toArray, List.set_cons_zero, List.set_cons_succ]
      refine wpAnyH_ready (rs := [7]) (by kernel_rfl) (by simp) ?_
      refine AllReadyH.cons (o := ⟨some 23, _, _, _, _, _⟩) rfl (fun K hK => ?_) AllReadyH.nil
      refine step_app22 rfl _ _ 35 rfl (.slice aW E.length cW) (.slice (some ⟨w3.heap.size, 0, none⟩) 1 1) _ w5 ?hs ?hx r2 ?_
      case hs => go_simp
      case hx => go_simp
      clear hHeld
      refine hK.out _ _ ?hSPBrB7 (fun hHeld => ?restPBrB7)
      case hSPBrB7 => exact X5.out.bc
      clear hK K
      try simp only [Act.put, List.setIfInBounds_toArray, List.set_cons_zero, List.set_cons_succ]
      refine wpAnyH_take (i := 8) (oi := ⟨some 24, _, _, _, _, _⟩) (v := ?vPBrB8) rfl (by kernel_rfl) (by kernel_rfl) (by kernel_rfl) (fun _ _ _ h => h) (Or.inl ⟨by rfl, ?hyPBrB8⟩) (by assumption) ?restPBrB8
      case hyPBrB8 => (intro w hSw; (try dsimp only at hSw); go_simp <;> (try with_reducible rfl))
      try simp only [Act.put, List.setIfInBounds_toArray, List.set_cons_zero, List.set_cons_succ]
      refine wpAnyH_take (i := 9) (oi := ⟨some 25, _, _, _, _, _⟩) (v := ?vPBrB9) rfl (by kernel_rfl) (by kernel_rfl) (by kernel_rfl) (fun _ _ _ h => h) (Or.inl ⟨by rfl, ?hyPBrB9⟩) (by assumption) ?restPBrB9
      case hyPBrB9 => (intro w hSw; (try dsimp only at hSw); go_simp <;> (try with_reducible rfl))
      try simp only [Act.put, List.setIfInBounds_toArray, List.set_cons_zero, List.set_cons_succ]
      refine wpAnyH_ready (rs := [10]) (by kernel_rfl) (by simp) ?_
      refine AllReadyH.cons (o := ⟨none, _, _, _, _, _⟩) rfl (fun K hK => ?_) AllReadyH.nil
      go_simp
      clear hHeld
      refine hK.out _ _ ?hSPBrB10 (fun hHeld => ?restPBrB10)
      case hSPBrB10 => exact X6.out.bc
      clear hK K
      try simp only [Act.put, List.setIfInBounds_toArray, List.set_cons_zero, List.set_cons_succ]
      refine wpAnyH_done (by kernel_rfl) ?_ _
      refine NoPanic.normal ?_
      clear hHeld
      exact bodyPost_end (results_none rfl _ _ _) rfl ⟨rfl, _, _, _, HB.out, HS.out⟩
    · go_simp
      clear hHeld
      refine hK.out _ _ ?hSPBrC6 (fun hHeld => ?restPBrC6)
      case hSPBrC6 => exact (X4.out.al _).bc
      clear hK K
      try simp only [Act.put, List.setIfInBounds_toArray, List.set_cons_zero, List.set_cons_succ]
      refine wpAnyH_ready (rs := [4]) (by kernel_rfl) (by simp) ?_
      refine AllReadyH.cons (o := ⟨some 20, _, _, _, _, _⟩) rfl (fun K hK => ?_) AllReadyH.nil
      go_simp
      clear hHeld
      refine hK.out _ _ ?hSPBrC4 (fun hHeld => ?restPBrC4)
      case hSPBrC4 => exact (X4.out.al _).bc
      clear hK K
      try simp only [Act.put, List.setIfInBounds_toArray, List.set_cons_zero, List.set_cons_succ]
      refine wpAnyH_ready (rs := [7]) (by kernel_rfl) (by simp) ?_
      refine AllReadyH.cons (o := ⟨some 23, _, _, _, _, _⟩) rfl (fun K hK => ?_) AllReadyH.nil
      refine step_app22 rfl _ _ 35 rfl (.slice aW E.length cW) (.slice (some ⟨w3.heap.size, 0, none⟩) 1 1) _ w5 ?hs ?hx r2 ?_
      case hs => go_simp
      case hx => go_simp
      clear hHeld
      refine hK.out _ _ ?hSPBrC7 (fun hHeld => ?restPBrC7)
      case hSPBrC7 => exact X5.out.bc
      clear hK K
      try simp only [Act.put, List.setIfInBounds_toArray, List.set_cons_zero, List.set_cons_succ]
      refine wpAnyH_take (i := 8) (oi := ⟨some 24, _, _, _, _, _⟩) (v := ?vPBrC8) rfl (by kernel_rfl) (by kernel_rfl) (by kernel_rfl) (fun _ _ _ h => h) (Or.inl ⟨by rfl, ?hyPBrC8⟩) (by assumption) ?restPBrC8
      case hyPBrC8 => (intro w hSw; (try dsimp only at hSw); go_simp <;> (try with_reducible rfl))
      try simp only [Act.put, List.setIfInBounds_toArray, List.set_cons_zero, List.set_cons_succ]
      refine wpAnyH_take (i := 9) (oi := ⟨some 25, _, _, _, _, _⟩) (v := ?vPBrC9) rfl (by kernel_rfl) (by kernel_rfl) (by kernel_rfl) (fun _ _ _ h => h) (Or.inl ⟨by rfl, ?hyPBrC9⟩) (by assumption) ?restPBrC9
      case hyPBrC9 => (intro w hSw; (try dsimp only at hSw); go_simp <;> (try with_reducible rfl))
      try simp only [Act.put, List.setIfInBounds_toArray, List.set_cons_zero, List.set_cons_succ]
      refine wpAnyH_ready (rs := [10]) (by kernel_rfl) (by simp) ?_
      refine AllReadyH.cons (o := ⟨none, _, _, _, _, _⟩) rfl (fun K hK => ?_) AllReadyH.nil
      go_simp
      clear hHeld
      refine hK.out _ _ ?hSPBrC10 (fun hHeld => ?restPBrC10)
      case hSPBrC10 => exact X6.out.bc
      clear hK K
      try simp only [Act.put, List.setIfInBounds_toArray, List.set_cons_zero, List.set_cons_succ]
      refine wpAnyH_done (by kernel_rfl) ?_ _
      refine NoPanic.normal ?_
      clear hHeld
      exact bodyPost_end (results_none rfl _ _ _) rfl ⟨rfl, _, _, _, HB.out, HS.out⟩
  · go_simp
    clear hHeld
    refine hK.out _ _ ?hSPC6 (fun hHeld => ?restPC6)
    case hSPC6 => exact (X2.out.al _).bc
    clear hK K
    try simp only [Act.put, List.setIfInBounds_toArray, List.set_cons_zero, List.set_cons_succ]
    refine wpAnyH_ready (rs := [4]) (by kernel_rfl) (by simp) ?_
    refine AllReadyH.cons (o := ⟨some 10, _, _, _, _, _⟩) rfl (fun K hK => ?_) AllReadyH.nil
    go_simp
    clear hHeld
    refine hK.out _ _ ?hSPC4 (fun hHeld => ?restPC4)
    case hSPC4 => exact (X2.out.al _).bc
    clear hK K
    try simp only [Act.put, List.setIfInBounds_toArray, List.set_cons_zero, List.set_cons_succ]
    refine wpAnyH_ready (rs := [7]) (by kernel_rfl) (by simp) ?_
    refine AllReadyH.cons (o := ⟨some 13, _, _, _, _, _⟩) rfl (fun K hK => ?_) AllReadyH.nil
    refine step_app22 rfl _ _ 35 rfl (.slice aN E.length cN) (.slice (some ⟨W1.drew.heap.size, 0, none⟩) 1 1) _ w3 ?hs ?hx r1 ?_
    case hs => go_simp
    case hx => go_simp
    clear hHeld
    refine hK.out _ _ ?hSPC7 (fun hHeld => ?restPC7)
    case hSPC7 => exact X3.out.bc
    clear hK K
    try simp only [Act.put, List.setIfInBounds_toArray, List.set_cons_zero, List.set_cons_succ]
    refine wpAnyH_take (i := 8) (oi := ⟨some 14, _, _, _, _, _⟩) (v := ?vPC8) rfl (by kernel_rfl) (by kernel_rfl) (by kernel_rfl) (fun _ _ _ h => h) (Or.inl ⟨by rfl, ?hyPC8⟩) (by assumption) ?restPC8
    case hyPC8 => (intro w hSw; (try dsimp only at hSw); go_simp <;> (try with_reducible rfl))
    try simp only [Act.put, List.setIfInBounds_toArray, List.set_cons_zero, List.set_cons_succ]
    refine wpAnyH_take (i := 9) (oi := ⟨some 15, _, _, _, _, _⟩) (v := ?vPC9) rfl (by kernel_rfl) (by kernel_rfl) (by kernel_rfl) (fun _ _ _ h => h) (Or.inl ⟨by rfl, ?hyPC9⟩) (by assumption) ?restPC9
    case hyPC9 => (intro w hSw; (try dsimp only at hSw); go_simp <;> (try with_reducible rfl))
    try simp only [Act.put, List.setIfInBounds_toArray, List.set_cons_zero, List.set_cons_succ]
    refine wpAnyH_ready (rs := [10]) (by kernel_rfl) (by simp) ?_
    refine AllReadyH.cons (o := ⟨none, _, _, _, _, _⟩) rfl (fun K hK => ?_) AllReadyH.nil
    go_simp
    clear hHeld
    refine hK.out _ _ ?hSPC10 (fun hHeld => ?restPC10)
    case hSPC10 => exact X34.out.bc
    clear hK K
    try simp only [Act.put, List.setIfInBounds_toArray, List.set_cons_zero, List.set_cons_succ]
    refine wpAnyH_done (by kernel_rfl) ?_ _
    refine NoPanic.normal ?_
    clear hHeld
    go_upto_region 2 with fail
    refine wp_region_noPanic ?_
    refine wp_region_held_drew (S := fun W => W.cell? ⟨(g + 1), 0, none⟩ = some (.string tO) ∧ W.cell? ⟨(g + 1), 1, none⟩ = some (.int .i64 tz) ∧ W.cell? ⟨(g + 1), 2, none⟩ = some (.string tR) ∧ W.cell? ⟨(g + 1), 3, none⟩ = some (.slice a' n c')) (by kernel_rfl) X4.out.bc (fun hHeld => ?_)
    refine wpAnyH_take (i := 0) (oi := ⟨some 16, _, _, _, _, _⟩) (v := ?vPCrT0) rfl (by kernel_rfl) (by kernel_rfl) (by kernel_rfl) (fun _ _ _ h => h) (Or.inl ⟨by rfl, ?hyPCrT0⟩) (by assumption) ?restPCrT0
    case hyPCrT0 => (intro w hSw; (try dsimp only at hSw); go_simp <;> (try with_reducible rfl))
    try simp only [Act.put, List.setIfInBounds_toArray, List.set_cons_zero, List.set_cons_succ]
    refine wpAnyH_take (i := 1) (oi := ⟨some 17, _, _, _, _, _⟩) (v := ?vPCrT1) rfl (by kernel_rfl) (by kernel_rfl) (by kernel_rfl) (fun _ _ _ h => h) (Or.inl ⟨by rfl, ?hyPCrT1⟩) (by assumption) ?restPCrT1
    case hyPCrT1 => (intro w hSw; (try dsimp only at hSw); go_simp <;> (try with_reducible rfl))
    try simp only [Act.put, List.setIfInBounds_toArray, List.set_cons_zero, List.set_cons_succ]
    refine wpAnyH_take (i := 2) (oi := ⟨some 18, _, _, _, _, _⟩) (v := ?vPCrT2) rfl (by kernel_rfl) (by kernel_rfl) (by kernel_rfl) (fun _ _ _ h => h) (Or.inl ⟨by rfl, ?hyPCrT2⟩) (by assumption) ?restPCrT2
    case hyPCrT2 => (intro w hSw; (try dsimp only at hSw); go_simp <;> (try with_reducible rfl))
    try simp only [Act.put, List.setIfInBounds_toArray, List.set_cons_zero, List.set_cons_succ]
    refine wpAnyH_take (i := 3) (oi := ⟨some 19, _, _, _, _, _⟩) (v := ?vPCrT3) rfl (by kernel_rfl) (by kernel_rfl) (by kernel_rfl) (fun _ _ _ h => h) (Or.inl ⟨by rfl, ?hyPCrT3⟩) (by assumption) ?restPCrT3
    case hyPCrT3 => (intro w hSw; (try dsimp only at hSw); go_simp <;> (try with_reducible rfl))
    try simp only [Act.put, List.setIfInBounds_toArray, List.set_cons_zero, List.set_cons_succ]
    refine wpAnyH_take (i := 5) (oi := ⟨some 21, _, _, _, _, _⟩) (v := ?vPCrT5) rfl (by kernel_rfl) (by kernel_rfl) (by kernel_rfl) (fun _ _ _ h => h) (Or.inl ⟨by rfl, ?hyPCrT5⟩) (by assumption) ?restPCrT5
    case hyPCrT5 => (intro w hSw; (try dsimp only at hSw); go_simp <;> (try with_reducible rfl))
    try simp only [Act.put, List.setIfInBounds_toArray, List.set_cons_zero, List.set_cons_succ]
    refine wpAnyH_ready (rs := [4, 6]) (by kernel_rfl) (by simp) ?_
    refine AllReadyH.cons (o := ⟨some 20, _, _, _, _, _⟩) rfl (fun K hK => ?_) (AllReadyH.cons (o := ⟨some 22, _, _, _, _, _⟩) rfl (fun K hK => ?_) AllReadyH.nil)
    · go_simp
      clear hHeld
      refine hK.out _ _ ?hSPCrB4 (fun hHeld => ?restPCrB4)
      case hSPCrB4 => exact X4.out.bc
      clear hK K
      try simp only [Act.put, List.setIfInBounds_toArray, List.set_cons_zero, List.set_cons_succ]
      refine wpAnyH_ready (rs := [6]) (by kernel_rfl) (by simp) ?_
      refine AllReadyH.cons (o := ⟨some 22, _, _, _, _, _⟩) rfl (fun K hK => ?_) AllReadyH.nil
      go_simp
      clear hHeld
      refine hK.out _ _ ?hSPCrB6 (fun hHeld => ?restPCrB6)
      case hSPCrB6 => exact (X4.out.al _).bc
      clear hK K
      try simp only [Act.put, List.setIfInBounds_toArray, List.set_cons_zero, List.set_cons_succ]
      refine wpAnyH_ready (rs := [7]) (by kernel_rfl) (by simp) ?_
      refine AllReadyH.cons (o := ⟨some 23, _, _, _, _, _⟩) rfl (fun K hK => ?_) AllReadyH.nil
      refine step_app22 rfl _ _ 35 rfl (.slice aW E.length cW) (.slice (some ⟨w3.heap.size, 0, none⟩) 1 1) _ w5 ?hs ?hx r2 ?_
      case hs => go_simp
      case hx => go_simp
      clear hHeld
      refine hK.out _ _ ?hSPCrB7 (fun hHeld => ?restPCrB7)
      case hSPCrB7 => exact X5.out.bc
      clear hK K
      try simp only [Act.put, List.setIfInBounds_toArray, List.set_cons_zero, List.set_cons_succ]
      refine wpAnyH_take (i := 8) (oi := ⟨some 24, _, _, _, _, _⟩) (v := ?vPCrB8) rfl (by kernel_rfl) (by kernel_rfl) (by kernel_rfl) (fun _ _ _ h => h) (Or.inl ⟨by rfl, ?hyPCrB8⟩) (by assumption) ?restPCrB8
      case hyPCrB8 => (intro w hSw; (try dsimp only at hSw); go_simp <;> (try with_reducible rfl))
      try simp only [Act.put, List.setIfInBounds_toArray, List.set_cons_zero, List.set_cons_succ]
      refine wpAnyH_take (i := 9) (oi := ⟨some 25, _, _, _, _, _⟩) (v := ?vPCrB9) rfl (by kernel_rfl) (by kernel_rfl) (by kernel_rfl) (fun _ _ _ h => h) (Or.inl ⟨by rfl, ?hyPCrB9⟩) (by assumption) ?restPCrB9
      case hyPCrB9 => (intro w hSw; (try dsimp only at hSw); go_simp <;> (try with_reducible rfl))
      try simp only [Act.put, List.setIfInBounds_toArray, List.set_cons_zero, List.set_cons_succ]
      refine wpAnyH_ready (rs := [10]) (by kernel_rfl) (by simp) ?_
      refine AllReadyH.cons (o := ⟨none, _, _, _, _, _⟩) rfl (fun K hK => ?_) AllReadyH.nil
      go_simp
      clear hHeld
      refine hK.out _ _ ?hSPCrB10 (fun hHeld => ?restPCrB10)
      case hSPCrB10 => exact X6.out.bc
      clear hK K
      try simp only [Act.put, List.setIfInBounds_toArray, List.set_cons_zero, List.set_cons_succ]
      refine wpAnyH_done (by kernel_rfl) ?_ _
      refine NoPanic.normal ?_
      clear hHeld
      exact bodyPost_end (results_none rfl _ _ _) rfl ⟨rfl, _, _, _, HB.out, HS.out⟩
    · go_simp
      clear hHeld
      refine hK.out _ _ ?hSPCrC6 (fun hHeld => ?restPCrC6)
      case hSPCrC6 => exact (X4.out.al _).bc
      clear hK K
      try simp only [Act.put, List.setIfInBounds_toArray, List.set_cons_zero, List.set_cons_succ]
      refine wpAnyH_ready (rs := [4]) (by kernel_rfl) (by simp) ?_
      refine AllReadyH.cons (o := ⟨some 20, _, _, _, _, _⟩) rfl (fun K hK => ?_) AllReadyH.nil
      go_simp
      clear hHeld
      refine hK.out _ _ ?hSPCrC4 (fun hHeld => ?restPCrC4)
      case hSPCrC4 => exact (X4.out.al _).bc
      clear hK K
      try simp only [Act.put, List.setIfInBounds_toArray, List.set_cons_zero, List.set_cons_succ]
      refine wpAnyH_ready (rs := [7]) (by kernel_rfl) (by simp) ?_
      refine AllReadyH.cons (o := ⟨some 23, _, _, _, _, _⟩) rfl (fun K hK => ?_) AllReadyH.nil
      refine step_app22 rfl _ _ 35 rfl (.slice aW E.length cW) (.slice (some ⟨w3.heap.size, 0, none⟩) 1 1) _ w5 ?hs ?hx r2 ?_
      case hs => go_simp
      case hx => go_simp
      clear hHeld
      refine hK.out _ _ ?hSPCrC7 (fun hHeld => ?restPCrC7)
      case hSPCrC7 => exact X5.out.bc
      clear hK K
      try simp only [Act.put, List.setIfInBounds_toArray, List.set_cons_zero, List.set_cons_succ]
      refine wpAnyH_take (i := 8) (oi := ⟨some 24, _, _, _, _, _⟩) (v := ?vPCrC8) rfl (by kernel_rfl) (by kernel_rfl) (by kernel_rfl) (fun _ _ _ h => h) (Or.inl ⟨by rfl, ?hyPCrC8⟩) (by assumption) ?restPCrC8
      case hyPCrC8 => (intro w hSw; (try dsimp only at hSw); go_simp <;> (try with_reducible rfl))
      try simp only [Act.put, List.setIfInBounds_toArray, List.set_cons_zero, List.set_cons_succ]
      refine wpAnyH_take (i := 9) (oi := ⟨some 25, _, _, _, _, _⟩) (v := ?vPCrC9) rfl (by kernel_rfl) (by kernel_rfl) (by kernel_rfl) (fun _ _ _ h => h) (Or.inl ⟨by rfl, ?hyPCrC9⟩) (by assumption) ?restPCrC9
      case hyPCrC9 => (intro w hSw; (try dsimp only at hSw); go_simp <;> (try with_reducible rfl))
      try simp only [Act.put, List.setIfInBounds_toArray, List.set_cons_zero, List.set_cons_succ]
      refine wpAnyH_ready (rs := [10]) (by kernel_rfl) (by simp) ?_
      refine AllReadyH.cons (o := ⟨none, _, _, _, _, _⟩) rfl (fun K hK => ?_) AllReadyH.nil
      go_simp
      clear hHeld
      refine hK.out _ _ ?hSPCrC10 (fun hHeld => ?restPCrC10)
      case hSPCrC10 => exact X6.out.bc
      clear hK K
      try simp only [Act.put, List.setIfInBounds_toArray, List.set_cons_zero, List.set_cons_succ]
      refine wpAnyH_done (by kernel_rfl) ?_ _
      refine NoPanic.normal ?_
      clear hHeld
      exact bodyPost_end (results_none rfl _ _ _) rfl ⟨rfl, _, _, _, HB.out, HS.out⟩
end Nt
end Go.Proofs.YtdbbemcddhgbcaaGreatDoor
