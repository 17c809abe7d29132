import Derived.Test.YtbodgecbakcaaaaGreatDoorPkBR10
import Derived.Test.YtbodgecbakcaaaaGreatDoorPkBL2
import Derived.Laws.BitsAllLaws
/- Layer 12, the law: bent; two lists that are lent (written by genBL6.py) -/
namespace Go.Proofs.YtbodgecbakcaaaaGreatDoor
open Go.RowKit Go.Shelf
namespace Bat
theorem at_keep12 {w w' : World} {a : Option Addr} {L : List (List UInt8)} {S : Nat → Prop} (h : At w a L) (hk : Keep S w w') (hd : ∀ x, a = some x → ¬ S x.block) : At w' a L := fun j p hp => by
  obtain ⟨x, rfl, h1, h2⟩ := h j p hp
  refine ⟨x, rfl, Nat.lt_of_lt_of_le h1 hk.size, ?_⟩
  rw [World.cell?_of_block (w := w) (by rw [addr_block]; exact hk.block x.block h1 (hd x rfl))]
  exact h2
theorem own12_set {w : World} {base g cap : Nat} {cs : List Value} (h : Own w base (.slice (some ⟨g, 0, none⟩) cs.length cap) cs) (k : Nat) (hk : k < cs.length) (x : Value) :
    Own (w.setCell ⟨g, k, none⟩ x) base (.slice (some ⟨g, 0, none⟩) (cs.set k x).length cap) (cs.set k x) := by
  rcases h with ⟨h, _⟩ | ⟨g', cap', h, h1, h2, h3, h4, h5, h6⟩
  · cases h
  · injection h with e1 e2 e3
    injection e1 with e1
    injection e1 with e1
    subst e1 e3
    refine .inr ⟨g, cap, rfl, h1, by rw [List.length_set]; exact h2, h3, fun j v hv => ?_, fun j hj => ?_, by simpa [World.setCell] using h6⟩
    · rw [Nat.zero_add]
      rw [List.getElem?_set] at hv
      split at hv
      · rename_i e
        subst e
        cases hv
        have := (h5 k (by omega)).1
        rw [Nat.zero_add] at this
        exact World.cell?_setCell_same' _ _ _ this
      · rename_i e
        have := h4 j v hv
        rw [Nat.zero_add] at this
        exact (World.cell?_setCell_other _ _ _ _ (by intro h; injection h; omega)).trans this
    · have := h5 j hj
      rw [Nat.zero_add] at this ⊢
      refine ⟨?_, by rw [World.frozen?_setCell]; exact this.2⟩
      by_cases e : j = k
      · subst e
        rw [World.cell?_setCell_same' _ _ _ this.1]; rfl
      · rw [World.cell?_setCell_other _ _ _ _ (by intro h; injection h; omega)]
        exact this.1
theorem conv_nil12 (w : World) : (convert 64 9 (.slice none 0 0)).run Tryz.prog w = .ok (.string ⟨#[]⟩) w := by kernel_rfl
def bnt (s : List UInt8) : List UInt8 := s.set (s.length - 1) (s.getD (s.length - 1) 0 ^^^ 1)
theorem bnt_len (s : List UInt8) : (bnt s).length = s.length := by unfold bnt; rw [List.length_set]
theorem bv_set (s : List UInt8) (k : Nat) (x : UInt8) : bv (s.set k x) = (bv s).set k (.int .u8 (x.toNat : Int)) := by unfold bv; rw [List.map_set]
theorem xor12 (x : UInt8) : bits .xor .u8 (x.toNat : Int) 1 = ((x ^^^ 1).toNat : Int) := by
  have := Go.u8_xor_nat x.toNat 1 (UInt8.toNat_lt x) (by omega)
  rw [show ((1 : Nat) : Int) = 1 from rfl] at this
  rw [this, UInt8.toNat_xor]
  rfl
set_option maxRecDepth 100000 in
set_option maxHeartbeats 2000000 in
theorem bent12_any (t : List UInt8) (ht : t.length ≤ 4611686018427387904) (w : World) :
    Calls Tryz.prog 22 #[sv t] w fun r w' => r = .returned (sv (bnt t)) ∧ Below w.heap.size w w' := by
  obtain ⟨v1, w1, hcv, O1, b1⟩ := conv_bytes w ⟨t.toArray⟩ (by rw [sv_size, maxLen]; omega)
  rw [sv_data] at O1
  have HB := hid b1
  rw [show sv t = Value.string ⟨t.toArray⟩ from rfl]
  rcases O1 with ⟨rfl, e⟩ | ⟨g, cap, rfl, h1, h2, h3, h4, h5, h6⟩
  · have e' : t = [] := List.map_eq_nil_iff.1 e
    subst e'
    have cv := conv_nil12 w1
    clear b1 e ht
    go_enter Tryz.func22, Tryz.ntmps22
    go_wp2
    go_ret
    exact ⟨rfl, HB.out⟩
  · have O1 : OwnB w1 w.heap.size (.slice (some ⟨g, 0, none⟩) (bv t).length cap) t := .inr ⟨g, cap, rfl, h1, h2, h3, h4, h5, h6⟩
    rcases Nat.eq_zero_or_pos t.length with e | e
    · have e' : t = [] := List.eq_nil_of_length_eq_zero e
      subst e'
      have cv := conv_own O1 (by simp)
      rw [show (bv ([] : List UInt8)).length = 0 from rfl] at hcv cv
      rw [show sv ([] : List UInt8) = Value.string ⟨#[]⟩ from rfl] at cv
      clear b1 e ht O1 h1 h2 h3 h4 h5 h6
      go_enter Tryz.func22, Tryz.ntmps22
      go_wp2
      go_ret
      exact ⟨rfl, HB.out⟩
    · obtain ⟨m, hm⟩ : ∃ m, t.length = m + 1 := ⟨t.length - 1, by omega⟩
      have hx : t[m]? = some (t.getD m 0) := by rw [List.getD_eq_getElem?_getD, List.getElem?_eq_getElem (by omega)]; rfl
      obtain ⟨x, hxx⟩ : ∃ x, t.getD m 0 = x := ⟨_, rfl⟩
      rw [hxx] at hx
      have hb : bnt t = t.set m (x ^^^ 1) := by unfold bnt; rw [hm, Nat.add_sub_cancel, hxx]
      have c1 : w1.cell? ⟨g, m, none⟩ = some (.int .u8 (x.toNat : Int)) := by
        have := h4 m (.int .u8 (x.toNat : Int)) (by unfold bv; rw [List.getElem?_map, hx]; rfl)
        rwa [Nat.zero_add] at this
      have f1 : w1.frozen? ⟨g, m, none⟩ = false := by
        have := (h5 m (by rw [bv_length] at h2; omega)).2
        rwa [Nat.zero_add] at this
      have hxr := xor12 x
      have O2 := own12_set O1 m (by rw [bv_length]; omega) (.int .u8 ((x ^^^ 1).toNat : Int))
      rw [← bv_set, ← hb, bv_length, bnt_len, hm] at O2
      have cv := conv_own O2 (by simp)
      rw [show sv (bnt t) = Value.string ⟨(bnt t).toArray⟩ from rfl] at cv ⊢
      rw [bv_length, hm] at hcv
      have B2 := hid (b1.setCell (p := ⟨g, m, none⟩) h1 (.int .u8 ((x ^^^ 1).toNat : Int)))
      have e1 : (0 : Int) < (m : Int) + 1 := by omega
      have hmm : m + 1 ≤ 4611686018427387904 := by omega
      generalize (ByteArray.mk t.toArray) = TB at *
      generalize (ByteArray.mk (bnt t).toArray) = RB at *
      generalize ((x ^^^ 1).toNat : Int) = z at *
      generalize (x.toNat : Int) = z0 at *
      clear b1 e ht O1 O2 h1 h2 h3 h4 h5 h6 hx hb hxx hm
      go_enter Tryz.func22, Tryz.ntmps22
      go_wp2
      go_ret
      exact ⟨rfl, B2.out⟩
structure Tw (w0 w : World) (gh gl nH nL : Nat) : Prop where
  bl : Below w0.heap.size w0 w
  g1 : w0.heap.size ≤ gh
  g2 : w0.heap.size ≤ gl
  ne : gh ≠ gl
  ex : ∃ A C : List (List UInt8), A.length = nH ∧ C.length = nL ∧ Row w gh (A ++ behind 8) ∧ Row w gl (C ++ behind 8)
def Bt (gh gl k : Nat) : Prop := k = gh ∨ k = gl
theorem Tw.lt {w0 w : World} {gh gl nH nL : Nat} (h : Tw w0 w gh gl nH nL) : gh < w.heap.size ∧ gl < w.heap.size := by
  obtain ⟨A, C, _, _, h1, h2⟩ := h.ex
  exact ⟨h1.lt, h2.lt⟩
theorem Tw.below {w0 w w' : World} {gh gl nH nL : Nat} (h : Tw w0 w gh gl nH nL) (hb : Below w.heap.size w w') : Tw w0 w' gh gl nH nL := by
  obtain ⟨A, C, a1, a2, h1, h2⟩ := h.ex
  exact ⟨h.bl.trans (hb.mono h.bl.size), h.g1, h.g2, h.ne, A, C, a1, a2, h1.below hb h1.lt, h2.below hb h2.lt⟩
theorem row_other {w : World} {H g k : Nat} {L : List (List UInt8)} (h : Row w H L) (hn : H ≠ g) (v : Value) : Row (w.setCell ⟨g, k, none⟩ v) H L := by
  unfold Row; rw [heap_setCell_other _ _ _ _ hn]; exact h
theorem Tw.setH {w0 w : World} {gh gl nH nL : Nat} (h : Tw w0 w gh gl nH nL) {i : Nat} (hi : i < nH) (p : List UInt8) : Tw w0 (w.setCell ⟨gh, i, none⟩ (sv p)) gh gl nH nL := by
  obtain ⟨A, C, a1, a2, h1, h2⟩ := h.ex
  refine ⟨h.bl.setCell (p := ⟨gh, i, none⟩) h.g1 _, h.g1, h.g2, h.ne, A.set i p, C, by rw [List.length_set]; exact a1, a2, ?_, row_other h2 (Ne.symm h.ne) _⟩
  have := h1.set i p
  rwa [List.set_append_left _ _ (by omega)] at this
theorem Tw.setL {w0 w : World} {gh gl nH nL : Nat} (h : Tw w0 w gh gl nH nL) {i : Nat} (hi : i < nL) (p : List UInt8) : Tw w0 (w.setCell ⟨gl, i, none⟩ (sv p)) gh gl nH nL := by
  obtain ⟨A, C, a1, a2, h1, h2⟩ := h.ex
  refine ⟨h.bl.setCell (p := ⟨gl, i, none⟩) h.g2 _, h.g1, h.g2, h.ne, A, C.set i p, a1, by rw [List.length_set]; exact a2, row_other h1 h.ne _, ?_⟩
  have := h2.set i p
  rwa [List.set_append_left _ _ (by omega)] at this
theorem Tw.cellH {w0 w : World} {gh gl nH nL : Nat} (h : Tw w0 w gh gl nH nL) {i : Nat} (hi : i < nH) : (∃ p, w.cell? ⟨gh, i, none⟩ = some (sv p)) ∧ w.frozen? ⟨gh, i, none⟩ = false := by
  obtain ⟨A, C, a1, a2, h1, h2⟩ := h.ex
  exact ⟨⟨_, h1.cell (List.getElem?_eq_getElem (show i < (A ++ behind 8).length by rw [List.length_append]; omega))⟩, h1.free (by rw [List.length_append]; omega)⟩
theorem Tw.cellL {w0 w : World} {gh gl nH nL : Nat} (h : Tw w0 w gh gl nH nL) {i : Nat} (hi : i < nL) : (∃ p, w.cell? ⟨gl, i, none⟩ = some (sv p)) ∧ w.frozen? ⟨gl, i, none⟩ = false := by
  obtain ⟨A, C, a1, a2, h1, h2⟩ := h.ex
  exact ⟨⟨_, h2.cell (List.getElem?_eq_getElem (show i < (C ++ behind 8).length by rw [List.length_append]; omega))⟩, h2.free (by rw [List.length_append]; omega)⟩
theorem row_at {w : World} {H : Nat} {L M : List (List UInt8)} (h : Row w H (L ++ M)) : At w (some ⟨H, 0, none⟩) L := by
  have := h.at.take L.length
  rwa [List.take_left] at this
theorem keep_bt {w w' : World} {gh gl g i : Nat} (h : Keep (Bt gh gl) w w') (hg : Bt gh gl g) (v : Value) : Keep (Bt gh gl) w (w'.setCell ⟨g, i, none⟩ v) := h.trans (Keep.ofSet (S := Bt gh gl) _ g i _ hg) fun _ _ e => e
theorem at_kept {w w' : World} {a : Option Addr} {l : List (List UInt8)} {gh gl : Nat} (h : At w a l) (hk : Keep (Bt gh gl) w w') (hd : ∀ x, a = some x → x.block ≠ gh ∧ x.block ≠ gl) : At w' a l := at_keep12 h hk fun x hx e => e.elim (hd x hx).1 (hd x hx).2
theorem own_at12 {w : World} {B : Nat} {v : Value} {L : List (List UInt8)} (h : Own w B v (svs L)) : ∃ a c, v = .slice a L.length c ∧ At w a L ∧ L.length ≤ c ∧ c ≤ 9223372036854775807 ∧ ∀ x, a = some x → B ≤ x.block := by
  have h0 := h
  obtain ⟨a, c, rfl, h1, h2, h3⟩ := h.at
  refine ⟨a, c, rfl, h1, h2, h3, fun x hx => ?_⟩
  subst hx
  rcases h0 with ⟨h, _⟩ | ⟨g, cap, h, hB, _⟩
  · cases h
  · injection h with e1 e2 e3
    obtain rfl := Option.some.inj e1
    exact hB
end Bat
end Go.Proofs.YtbodgecbakcaaaaGreatDoor

/- Layer 12, the law: a batch with a copy of indices -/
namespace Go.Proofs.YtbodgecbakcaaaaGreatDoor
open Go.RowKit Go.Shelf
namespace Bat
theorem appendI_zero12 (w : World) (x : Value) (hs : Src Tryz.prog 1 22 x 0 [] w) :
    (Builtin.append_ #[22, 22] 22 #[.slice none 0 0, x]).run Tryz.prog w = .ok (.slice none 0 0) w := by
  obtain ⟨i0, hi, hz0, hz1, hz2⟩ := info_parts infoBl
  have hc := hs.cells
  rw [← hz1] at hc
  simp [Builtin.append_, run_underlying Tryz.underlying22, sizeOf, typeInfo, hi, hs.len, hc]
theorem append_copy12 (w : World) (a : Option Addr) (cap : Nat) (L : List Int) (hA : AtI w a L) (hlen : L.length ≤ 17592186043904) :
    ∃ v' w', (Builtin.append_ #[22, 22] 22 #[.slice none 0 0, .slice a L.length cap]).run Tryz.prog w = .ok v' w' ∧ Own w' w.heap.size v' (ivs L) ∧ Below w.heap.size w w' := by
  by_cases h0 : L.length = 0
  · obtain rfl : L = [] := List.length_eq_zero_iff.1 h0
    have hsrc : Src Tryz.prog 1 22 (.slice a 0 cap) 0 [] w := by
      cases a with
      | none => exact Src.ofNil w Tryz.underlying22 cap
      | some x => exact Src.ofSlice w Tryz.underlying22 x 0 cap [] (by simp) (fun j u hj => by simp at hj) (fun u hu => by simp at hu)
    exact ⟨_, w, appendI_zero12 w _ hsrc, Own.nil _ _, Below.refl _ _⟩
  · obtain ⟨v', w', h1, h2, h3⟩ := append_ints w w.heap.size (.slice none 0 0) [] (Own.nil _ _) (Nat.le_refl _) a cap L hA (by omega) (by simp; omega)
    exact ⟨v', w', h1, by simpa using h2, h3⟩
theorem drewBelow12 {w w' : World} {B : Nat} (h : Below B w.drew w') : Below B w w' := ⟨h.os, h.tape, h.output, h.size, h.block⟩
theorem atI_setRow {w : World} {a : Option Addr} {l : List Int} (h : AtI w a l) (g : Nat) (cs : Array Value) (hne : ∀ x, a = some x → x.block ≠ g) : AtI (w.setRow g cs) a l := fun j p hp => by
  obtain ⟨x, rfl, hx, hc⟩ := h j p hp
  refine ⟨x, rfl, by rw [setRow_size]; exact hx, ?_⟩
  rw [← hc]
  exact World.cell?_of_block (w := w) (by rw [addr_block]; exact setRow_other w g _ cs (hne x rfl))
theorem atI_base {w : World} {B : Nat} {v : Value} {L : List Int} (h : Own w B v (ivs L)) : ∃ a c, v = .slice a L.length c ∧ AtI w a L ∧ ∀ x, a = some x → B ≤ x.block := by
  have h0 := h
  obtain ⟨a, c, rfl, h1, _, _⟩ := h.atI
  refine ⟨a, c, rfl, h1, fun x hx => ?_⟩
  subst hx
  rcases h0 with ⟨h, _⟩ | ⟨g, cap, h, hB, _⟩
  · cases h
  · injection h with e1 e2 e3
    obtain rfl := Option.some.inj e1
    exact hB
def CpB (w w' : World) (g : Nat) (n : Int) (a : Option Addr) (nc k : Nat) (vh : Value) (cs : List Int) : Prop :=
  w.heap.size ≤ g ∧ BtI w' g n (.slice a nc k) vh ∧ Below w.heap.size w w' ∧ AtI w' a cs ∧ ∀ x, a = some x → w.heap.size ≤ x.block
theorem bt_three {w : World} {g : Nat} {n : Int} {vi vh : Value} (h : BtI w g n vi vh) (n' : Int) (vi' vh' : Value) : ((w.setCell ⟨g, 0, none⟩ (.int .i64 n')).setCell ⟨g, 1, none⟩ vi').setCell ⟨g, 2, none⟩ vh' = w.setRow g #[.int .i64 n', vi', vh'] := by
  rw [setCell_eq_setRow w g 0 _ _ _ _ h, setCell_eq_setRow _ g 1 _ _ _ _ (setRow_heap _ _ _ _ _ _ h), setRow_setRow, setCell_eq_setRow _ g 2 _ _ _ _ (setRow_heap _ _ _ _ _ _ h), setRow_setRow]
  rfl
theorem copy_both12 (w : World) (aI : Option Addr) (cI nc : Nat) (cs : List Int) (n : Int) (vh : Value) (hA : AtI w aI cs) (hn : cs.length = nc) (hL : nc ≤ 17592186043904) :
    ∃ a2 k2 w2 a3 k3 w3, (Builtin.append_ #[22, 22] 22 #[.slice none 0 0, .slice aI nc cI]).run Tryz.prog w.drew = .ok (.slice a2 nc k2) w2 ∧
      (Builtin.append_ #[22, 22] 22 #[.slice none 0 0, .slice aI nc cI]).run Tryz.prog (w.alloc (.cells #[Value.int .i64 0, .slice none 0 0, .slice none 0 0] 25)).drew = .ok (.slice a3 nc k3) w3 ∧
      Below w.heap.size w w2 ∧ Below w.heap.size w w3 ∧ BtI w3 w.heap.size 0 (.slice none 0 0) (.slice none 0 0) ∧
      CpB w (w2.alloc (.cells #[Value.int .i64 n, .slice a2 nc k2, vh] 25)) w2.heap.size n a2 nc k2 vh cs ∧ CpB w (w3.setRow w.heap.size #[Value.int .i64 n, .slice a3 nc k3, vh]) w.heap.size n a3 nc k3 vh cs := by
  subst hn
  obtain ⟨v2, w2, hap2, O2, b2⟩ := append_copy12 w.drew aI cI cs (hA.heap rfl) (by omega)
  obtain ⟨a2, k2, rfl, A2, ba2⟩ := atI_base O2
  have az := (Below.refl w.heap.size w).alloc (Nat.le_refl _) (.cells #[Value.int .i64 0, .slice none 0 0, .slice none 0 0] 25)
  have rz := BtI.new w 0 (.slice none 0 0) (.slice none 0 0)
  have sz := size_alloc w (.cells #[Value.int .i64 0, .slice none 0 0, .slice none 0 0] 25)
  obtain ⟨v3, w3, hap3, O3, b3⟩ := append_copy12 (w.alloc (.cells #[Value.int .i64 0, .slice none 0 0, .slice none 0 0] 25)).drew aI cI cs ((hA.below az (Nat.le_refl _)).heap rfl) (by omega)
  obtain ⟨a3, k3, rfl, A3, ba3⟩ := atI_base O3
  have b2' : Below w.heap.size w w2 := drewBelow12 b2
  have b3' := drewBelow12 b3
  have b3'' : Below w.heap.size w w3 := az.trans (b3'.mono az.size)
  have hal := (Below.refl w2.heap.size w2).alloc (Nat.le_refl _) (.cells #[Value.int .i64 n, .slice a2 cs.length k2, vh] 25)
  have rz3 := rz.below b3'
  have ba3' : ∀ x, a3 = some x → w.heap.size + 1 ≤ x.block := fun x hx => by
    have := ba3 x hx
    rw [← sz]; exact this
  refine ⟨a2, k2, w2, a3, k3, w3, hap2, hap3, b2', b3'', rz3, ⟨b2'.size, BtI.new w2 _ _ _, b2'.trans (hal.mono b2'.size), A2.below hal (Nat.le_refl _), ba2⟩, ⟨Nat.le_refl _, setRow_heap _ _ _ _ _ _ rz3, Below.setRow b3'' (Nat.le_refl _) _, ?_, fun x hx => by have := ba3' x hx; omega⟩⟩
  exact atI_setRow A3 _ _ fun x hx => by have := ba3' x hx; omega
end Bat
end Go.Proofs.YtbodgecbakcaaaaGreatDoor
