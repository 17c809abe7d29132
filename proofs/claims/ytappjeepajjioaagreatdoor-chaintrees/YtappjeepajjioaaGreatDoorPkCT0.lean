import Derived.Test.YtappjeepajjioaaGreatDoorPkCA1
import Derived.Test.YtappjeepajjioaaGreatDoorPkSI2
import Derived.Test.YtappjeepajjioaaGreatDoorPkI18
import Derived.Test.YtappjeepajjioaaGreatDoorPkO27
namespace Go.Proofs.YtappjeepajjioaaGreatDoor
open Go.RowKit Go.Shelf
namespace Chn
set_option maxRecDepth 100000 in
set_option maxHeartbeats 800000 in
theorem texts13_yes (l : List (List UInt8)) (a d : Option Addr) (ca cd : Nat) (w : World) (ha : At w a l) (hd : At w d l) (hll : l.length ≤ 9223372036854775807) :
    Calls Tryz.prog 20 #[.slice a l.length ca, .slice d l.length cd] w fun e w' => e = .returned (.bool true) ∧ Below w.heap.size w w' ∧ w'.heap = w.heap := by
  have Ha := hid ha
  have Hd := hid hd
  clear ha hd
  go_enter Tryz.func20, Tryz.ntmps20
  go_wp2
  go_loopw [5] (fun i w' => ∃ k : Nat, k ≤ l.length ∧ i = .int .i64 k ∧ Hid (Below w.heap.size w w' ∧ w'.heap = w.heap)) (fun i _ => l.length - (intOf i).toNat)
  case atStart => exact ⟨0, by omega, rfl, hid ⟨Below.refl _ _, rfl⟩⟩
  case round =>
    obtain ⟨k, hk, rfl, hw'⟩ := hrel
    by_cases hlt : k < l.length
    · have b0 : (k : Int) < (l.length : Int) := by omega
      obtain ⟨x, rfl, xb, hx⟩ := Ha.out k l[k] (List.getElem?_eq_getElem hlt)
      rw [← hw'.out.1.cell (p := x.add k) (by rw [addr_block]; exact xb)] at hx
      clear xb
      obtain ⟨y, rfl, yb, hy⟩ := Hd.out k l[k] (List.getElem?_eq_getElem hlt)
      rw [← hw'.out.1.cell (p := y.add k) (by rw [addr_block]; exact yb)] at hy
      clear yb
      rw [svS] at hx hy
      generalize ByteArray.mk (l[k]).toArray = p at *
      have y1 : (p.toList == p.toList) = true := by simp
      have y2 : (p.toList != p.toList) = false := by simp
      go_wp2
      go_quiet (fail)
      go_wp2
      exact ⟨⟨k + 1, by omega, by go_num, hid ⟨below_drewN hw'.out.1 _, hw'.out.2⟩⟩, by simp [intOf]; omega⟩
    · have b0 : ¬ (k : Int) < (l.length : Int) := by omega
      go_wp2
      go_ret
      exact ⟨rfl, hw'.out.1, hw'.out.2⟩
/-- the blocks of the law's lists -/
def Al.F (c G : Nat) (vH vl vr : Value) : Nat → Prop := fun k => k = c ∨ k = G ∨ vH.ownBlock = some k ∨ vl.ownBlock = some k ∨ vr.ownBlock = some k
theorem Al.keep {B w' w2 : World} {c G : Nat} {vH vl vr : Value} {hs : List Nat} {H R : List (List UInt8)} {m k : Nat} {S : Nat → Prop} (a : Al B w' c G vH vl vr hs H R m k) (hk : Keep S w' w2) (h : ∀ i, Al.F c G vH vl vr i → ¬ S i) : Al B w2 c G vH vl vr hs H R m k := by
  refine ⟨(hk.block c (lt_of_heap a.ch) (h c (.inl rfl))).trans a.ch, a.oh.keep hk (fun i e => h i (.inr (.inr (.inl e)))), a.ol.keep hk (fun i e => h i (.inr (.inr (.inr (.inl e))))), ?_, a.orr.keep hk (fun i e => h i (.inr (.inr (.inr (.inr e))))), a.gr, a.c0, a.g0, a.h0, a.l0, a.cG, Nat.le_trans a.sz hk.size⟩
  unfold Row
  rw [hk.block G a.row.lt (h G (.inr (.inl rfl)))]
  exact a.row
theorem Al.Flt {B w' : World} {c G : Nat} {vH vl vr : Value} {hs : List Nat} {H R : List (List UInt8)} {m k : Nat} (a : Al B w' c G vH vl vr hs H R m k) : ∀ i, Al.F c G vH vl vr i → i < w'.heap.size := by
  rintro i (e | e | e | e | e)
  · rw [e]; exact lt_of_heap a.ch
  · rw [e]; exact a.row.lt
  · exact a.oh.lt i e
  · exact a.ol.lt i e
  · exact a.orr.lt i e
/-- begun anew, with no roots -/
theorem Al.anew {B w' : World} {c G : Nat} {vH vl vr : Value} {hs : List Nat} {H R : List (List UInt8)} {m k : Nat} (a : Al B w' c G vH vl vr hs H R m k) : Al w' w' c G vH vl (.slice none 0 0) hs H [] m k :=
  ⟨a.ch, a.oh, a.ol, a.row, OwnM.nil 1 _, (fun i hi => by cases hi), lt_of_heap a.ch, a.row.lt, fun i hi => ⟨a.oh.lt i hi, (a.h0 i hi).2⟩, fun i hi => ⟨a.ol.lt i hi, (a.l0 i hi).2⟩, a.cG, Nat.le_refl _⟩
theorem sg_more {L X : List (List UInt8)} {b e : Nat} (he : e ≤ L.length) : Til.sg (L ++ X) b e = Til.sg L b e := by
  unfold Til.sg
  rw [List.take_append_of_le_length he]
theorem fld_sg {L : List (List UInt8)} {hs : List Nat} (HH : Hds hs) (hl : ∀ x ∈ hs, x ≤ L.length) {i : Nat} (hi : i + 1 < hs.length) : exP hs (pvH L hs) i = hsh L (prf (hs.getD i 0) (hs.getD (i + 1) 0)) := by
  unfold exP hsh
  refine List.map_congr_left fun s hs' => ?_
  have hp := HH.pair hi
  have lo := prf_lo hp.1 (Nat.le_of_lt hp.2.1) s hs'
  have hb := hl _ (List.mem_of_getElem? (getD_at hi))
  obtain ⟨d, hd⟩ : ∃ d, hs.length - 1 = i + 1 + d := ⟨hs.length - 1 - (i + 1), by omega⟩
  have hc : can (told hs) s = true := by
    unfold told
    rw [hd]
    exact tol_can HH d (by omega) s hs'
  have := Tree.fld_root L (told hs) (pvH L hs) rfl (s.2 - s.1) s.1 (s.2 - s.1) (Nat.le_refl _) (by omega) (by omega) hc
  rw [show s.1 + (s.2 - s.1) = s.2 by omega] at this
  exact this
theorem con_okC {L : List (List UInt8)} (hL : Tree.Hs L) (hn : L.length ≤ 1000) {a b : Nat} (h1 : 1 ≤ a) (h2 : a ≤ b) (h3 : b ≤ L.length) : conOf4 (a : Int) (b : Int) (Tree.root (Til.sg L 0 a)) (Tree.root (Til.sg L 0 b)) (hsh L (prf a b)) = 0 := by
  have hX : Tree.Hs (L.take b) := hL.take b
  have lX : (L.take b).length = b := by rw [List.length_take]; omega
  have hK : (L.take b)[0]? = some L[0] := by rw [List.getElem?_take, if_pos (by omega), List.getElem?_eq_getElem]
  have ts := treeSays hX (by omega) hK (M := a) h1 (by omega)
  have tt : (L.take b).take a = L.take a := by rw [List.take_take]; congr 1; omega
  have r32 : (Tree.root (L.take b)).length = 32 := Tree.root_hash hX
  have := ts.roots
  rw [lX, tt] at this
  have e1 : hsh L (prf a b) = Tree.proof a (L.take b) true := hsh_proof L h1 h2 h3
  have e2 : Til.sg L 0 a = L.take a := rfl
  have e3 : Til.sg L 0 b = L.take b := rfl
  rw [e1, e2, e3]
  unfold conOf4
  rw [this, if_pos rfl, if_pos r32, if_pos rfl]
theorem rts_at {L : List (List UInt8)} {hs : List Nat} {i : Nat} (hi : i < hs.length) : (rts L hs hs.length).getD i [] = Tree.root (Til.sg L 0 (hs.getD i 0)) := by
  unfold rts
  rw [List.take_length, List.getD_eq_getElem?_getD, List.getElem?_map, getD_at hi]
  rfl
theorem exL_at {hs : List Nat} {H : List (List UInt8)} {i : Nat} (hi : i < hs.length - 1) : (exL hs H).getD i [] = exP hs H i := by
  unfold exL
  rw [List.getD_eq_getElem?_getD, List.getElem?_map, List.getElem?_range hi]
  rfl
theorem ck_all {L : List (List UInt8)} (hL : Tree.Hs L) (hn : L.length ≤ 1000) {hs : List Nat} (HH : Hds hs) (hl : ∀ x ∈ hs, x ≤ L.length) : ckA hs (exL hs (pvH L hs)) (rts L hs hs.length) (hs.length - 1) = true := by
  unfold ckA
  rw [List.all_eq_true]
  intro i hi
  rw [List.mem_range] at hi
  refine decide_eq_true ?_
  have hp := HH.pair (i := i) (by omega)
  unfold ckC
  rw [rts_at (by omega), rts_at (by omega), exL_at hi, fld_sg HH hl (by omega)]
  exact con_okC hL hn hp.1 (Nat.le_of_lt hp.2.1) (hl _ (List.mem_of_getElem? (getD_at (by omega))))
theorem allP_next (hs : List Nat) (i : Nat) : (allP hs (i + 1)).length = (allP hs i).length + (prf (hs.getD i 0) (hs.getD (i + 1) 0)).length := by rw [allP, List.length_append]
end Chn
end Go.Proofs.YtappjeepajjioaaGreatDoor
