import Derived.Test.YtonmhimoglgbgaaDoorBK5
namespace Go.Proofs.YtonmhimoglgbgaaDoor
open Go.RowKit
theorem Fam.cells {w : World} {X f : Nat} {ρ : Rol} {mv : Nat → Value} {v : Value} {GS : List Value} (h : Fam w X ρ f mv v GS) {n : Nat} {s : Value} (hs : GS[n]? = some s) :
    (s = .slice none 0 0) ∨ ∃ g m c, s = .slice (some ⟨g, 0, none⟩) m c ∧ m ≤ 2000000 ∧ (∃ r, ρ g = some r) ∧ ∀ j, j < m → w.cell? ⟨g, j, none⟩ = some (mv (n / 6)) := by
  rcases h.ent n s hs with rfl | ⟨g, m, c, l, rfl, h1, h2, h3⟩
  · exact .inl rfl
  · exact .inr ⟨g, m, c, rfl, by omega, ⟨_, h3⟩, fun j hj => h.mkd g _ l h3 j (by omega)⟩
theorem ownHead {w : World} {base : Nat} {a : Option Addr} {n c : Nat} {cs : List Value} (h : Own w base (.slice a n c) cs) {k : Nat} {x : Value} (hk : cs[k]? = some x) : ∃ g, a = some ⟨g, 0, none⟩ ∧ w.cell? ⟨g, k, none⟩ = some x ∧ g < w.heap.size := by
  rcases own_cases h with ⟨e, e2⟩ | ⟨g, c', e, eg⟩
  · subst e2; simp at hk
  · injection e with e1
    exact ⟨g, e1, own_cell h eg hk, h.lt g eg⟩
set_option maxRecDepth 100000 in
set_option maxHeartbeats 4000000 in
theorem kept_any (X : Nat) (ρ : Rol) (S : BS) (w : World) (h : Bk w X ρ S) (hI : S.GI.length ≤ 1500) (hT : S.GT.length ≤ 1500) :
    Calls Tryd.prog 52 #[.pointer (some ⟨X, 0, none⟩)] w fun r w' => r = .returned (.bool true) ∧ Below w.heap.size w w' := by
  obtain ⟨ia, ic, hvI⟩ := h.I.own.shape
  obtain ⟨ta, tc, hvT⟩ := h.T.own.shape
  obtain ⟨NI, hNI⟩ : ∃ n, S.GI.length = n := ⟨_, rfl⟩
  obtain ⟨NT, hNT⟩ : ∃ n, S.GT.length = n := ⟨_, rfl⟩
  have HNI := hid hNI
  have HNT := hid hNT
  rw [hNI] at hvI hI
  rw [hNT] at hvT hT
  have c0 : w.cell? ⟨X, 0, none⟩ = some S.vI := by rw [cell_of_row _ _ _ _ _ _ h.row]; rfl
  have c1 : w.cell? ⟨X, 1, none⟩ = some S.vT := by rw [cell_of_row _ _ _ _ _ _ h.row]; rfl
  rw [hvI] at c0
  rw [hvT] at c1
  have HB := hid h
  have OI := hid (by have := h.I.own; rw [hvI] at this; exact this)
  have OT := hid (by have := h.T.own; rw [hvT] at this; exact this)
  have hX := hid (lt_of_heap h.row)
  clear h hNI hNT
  go_enter Tryd.func52, Tryd.ntmps52
  go_wp2
  go_loopw [3] (fun i w' => ∃ k : Nat, k ≤ NI ∧ i = .int .i64 (k : Int) ∧ w' = w) (fun i _ => NI - (intOf i).toNat)
  case atStart => exact ⟨0, by omega, rfl, rfl⟩
  case round =>
    obtain ⟨k, hk, rfl, hww⟩ := hrel
    rw [hww]
    clear hww
    by_cases hkN : k < NI
    · have b0 : (k : Int) < (NI : Int) := by omega
      obtain ⟨s, hs⟩ : ∃ s, S.GI[k]? = some s := ⟨_, List.getElem?_eq_getElem (by rw [HNI.out]; exact hkN)⟩
      obtain ⟨ib, rfl, d0, _⟩ := ownHead OI.out hs
      rcases HB.out.I.cells hs with rfl | ⟨g, m, c, rfl, hm, _, hcell⟩
      · clear hs
        go_wp2
        go_loopw [4] (fun i w' => i = .int .i64 0 ∧ w' = w) (fun _ _ => 0)
        case atStart => exact ⟨rfl, rfl⟩
        case round =>
          obtain ⟨rfl, hww⟩ := hrel
          rw [hww]
          clear hww
          go_wp2
          exact ⟨⟨k + 1, by omega, by go_num, trivial⟩, by simp [intOf]; omega⟩
      · obtain ⟨q, hq⟩ : ∃ q, k / 6 = q := ⟨_, rfl⟩
        rw [hq] at hcell
        have q1 : (k : Int) / 6 = (q : Int) := by omega
        have HC := hid hcell
        have q2 : q ≤ 1500 := by omega
        clear hs hcell hq
        go_wp2
        go_loopw [4] (fun i w' => ∃ j : Nat, j ≤ m ∧ i = .int .i64 (j : Int) ∧ w' = w) (fun i _ => m - (intOf i).toNat)
        case atStart => exact ⟨0, by omega, rfl, rfl⟩
        case round =>
          obtain ⟨j, hj, rfl, hww⟩ := hrel
          rw [hww]
          clear hww
          by_cases hjm : j < m
          · have b1 : (j : Int) < (m : Int) := by omega
            have e0 := HC.out j hjm
            unfold mvI at e0
            have y1 : (-5 - (q : Int) != -5 - (q : Int)) = false := by simp
            have y2 : (-5 - (q : Int) == -5 - (q : Int)) = true := by simp
            go_wp2
            exact ⟨⟨j + 1, by omega, by go_num, trivial⟩, by simp [intOf]; omega⟩
          · have b1 : ¬ (j : Int) < (m : Int) := by omega
            go_wp2
            exact ⟨⟨k + 1, by omega, by go_num, trivial⟩, by simp [intOf]; omega⟩
    · have b0 : ¬ (k : Int) < (NI : Int) := by omega
      go_wp2
      clear OI c0
      go_loopw [5] (fun i w' => ∃ k : Nat, k ≤ NT ∧ i = .int .i64 (k : Int) ∧ Hid (Below w.heap.size w w')) (fun i _ => NT - (intOf i).toNat)
      case atStart => exact ⟨0, by omega, rfl, Below.refl _ _⟩
      case round =>
        obtain ⟨k2, hk2, rfl, hB⟩ := hrel
        have e1 := (hB.out.cell (p := ⟨X, 1, none⟩) hX.out).trans c1
        by_cases hkN2 : k2 < NT
        · have b1 : (k2 : Int) < (NT : Int) := by omega
          obtain ⟨s, hs⟩ : ∃ s, S.GT[k2]? = some s := ⟨_, List.getElem?_eq_getElem (by rw [HNT.out]; exact hkN2)⟩
          obtain ⟨tb, rfl, d0, htb⟩ := ownHead OT.out hs
          have Htb := hid htb
          have d1 := (hB.out.cell (p := ⟨tb, k2, none⟩) htb).trans d0
          rcases HB.out.T.cells hs with rfl | ⟨g, m, c, rfl, hm, ⟨r, hr⟩, hcell⟩
          · clear hs htb
            go_wp2
            go_loopw [6] (fun i w' => i = .int .i64 0 ∧ Hid (Below w.heap.size w w')) (fun _ _ => 0)
            case atStart => exact ⟨rfl, hB⟩
            case round =>
              clear hB e1 d1
              obtain ⟨rfl, hB⟩ := hrel
              have e1 := (hB.out.cell (p := ⟨X, 1, none⟩) hX.out).trans c1
              have d1 := (hB.out.cell (p := ⟨tb, k2, none⟩) Htb.out).trans d0
              go_wp2
              exact ⟨⟨k2 + 1, by omega, by go_num, hB⟩, by simp [intOf]; omega⟩
          · obtain ⟨q, hq⟩ : ∃ q, k2 / 6 = q := ⟨_, rfl⟩
            rw [hq] at hcell
            have q1 : (k2 : Int) / 6 = (q : Int) := by omega
            have HC := hid hcell
            have q2 : q ≤ 250 := by omega
            have q3 : IntKind.i64.wrap (q : Int) = (q : Int) := by rw [IntKind.wrap_i64]; omega
            have Hg := hid (HB.out.lt g r hr).2
            obtain ⟨MB, hMB⟩ : ∃ MB : ByteArray, Hid (mvT q = .string MB) := ⟨⟨(mrk q).toArray⟩, rfl⟩
            have hmk := fun w' => mark_at q (by omega) w'
            rw [hMB.out] at hmk
            have y1 : (MB.toList != MB.toList) = false := by simp
            have y2 : (MB.toList == MB.toList) = true := by simp
            clear hs hcell hq htb hr
            go_wp2
            go_loopw [6] (fun i w' => ∃ j : Nat, j ≤ m ∧ i = .int .i64 (j : Int) ∧ Hid (Below w.heap.size w w')) (fun i _ => m - (intOf i).toNat)
            case atStart => exact ⟨0, by omega, rfl, hB⟩
            case round =>
              clear hB e1 d1
              obtain ⟨j, hj, rfl, hB⟩ := hrel
              have e1 := (hB.out.cell (p := ⟨X, 1, none⟩) hX.out).trans c1
              have d1 := (hB.out.cell (p := ⟨tb, k2, none⟩) Htb.out).trans d0
              by_cases hjm : j < m
              · have b2 : (j : Int) < (m : Int) := by omega
                have e0 := HC.out j hjm
                rw [hMB.out] at e0
                have f1 := (hB.out.cell (p := ⟨g, j, none⟩) Hg.out).trans e0
                go_wp2
                go_region_held3 (fun w' => w'.cell? ⟨X, 1, none⟩ = some (.slice (some ⟨tb, 0, none⟩) NT tc) ∧ w'.cell? ⟨tb, k2, none⟩ = some (.slice (some ⟨g, 0, none⟩) m c) ∧ w'.cell? ⟨g, j, none⟩ = some (.string MB)) (first | exact e3 | exact ⟨e1, d1, f1⟩) (first
                  | (go_at_call 49; (with_reducible refine (hmk _).mono ?_); rintro r w3 ⟨rfl, hw3'⟩; have hw3 := (Below.refl wr.heap.size wr).drew.trans hw3'; have B3 := hid (hB.out.trans (hw3.mono hB.out.size)); have e3 := And.intro ((B3.out.cell (p := ⟨X, 1, none⟩) hX.out).trans c1) (And.intro ((B3.out.cell (p := ⟨tb, k2, none⟩) Htb.out).trans d0) ((B3.out.cell (p := ⟨g, j, none⟩) Hg.out).trans e0))))
                go_wp2
                exact ⟨⟨j + 1, by omega, by go_num, B3⟩, by simp [intOf]; omega⟩
              · have b2 : ¬ (j : Int) < (m : Int) := by omega
                go_wp2
                exact ⟨⟨k2 + 1, by omega, by go_num, hB⟩, by simp [intOf]; omega⟩
        · have b1 : ¬ (k2 : Int) < (NT : Int) := by omega
          go_wp2
          go_ret
          exact ⟨rfl, hB.out⟩
end Go.Proofs.YtonmhimoglgbgaaDoor
