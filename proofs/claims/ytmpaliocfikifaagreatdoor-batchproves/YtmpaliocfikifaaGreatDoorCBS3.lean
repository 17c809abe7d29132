import Derived.Test.YtmpaliocfikifaaGreatDoorCO54
import Derived.Test.YtmpaliocfikifaaGreatDoorCO52
namespace Go.Proofs.YtmpaliocfikifaaGreatDoor
open Go.RowKit
/-- what still may write: the book and the lists that were taken -/
def Sd (X : Nat) (us : List Value) (k : Nat) : Prop := k = X ∨ ∃ (i : Nat) (u : Value), us[i]? = some u ∧ u.ownBlock = some k
/-- the lists grow: what was there ahead stays, but S -/
structure Kq (S : Nat → Prop) (w w' : World) (vg vh x : Value) : Prop where
  keep : Keep S w w'
  g : ∀ k, vg.ownBlock = some k → w.heap.size ≤ k
  h : ∀ k, vh.ownBlock = some k → w.heap.size ≤ k
  x : ∀ k, x.ownBlock = some k → S k ∨ w.heap.size ≤ k
section
variable {S : Nat → Prop} {w w1 w2 : World} {vg vh x v' : Value}
theorem Kq.size (h : Kq S w w1 vg vh x) : w.heap.size ≤ w1.heap.size := h.keep.size
theorem Kq.none (h : Kq S w w1 vg vh x) : Kq S w w1 vg vh (.slice none 0 0) := ⟨h.keep, h.g, h.h, fun k e => by cases e⟩
theorem Kq.below (h : Kq S w w1 vg vh x) (hb : Below w1.heap.size w1 w2) : Kq S w w2 vg vh x := ⟨h.keep.trans (Keep.ofBelow (S := S) hb) (fun _ _ e => e), h.g, h.h, h.x⟩
theorem Grow.new {v : Value} (hg : Grow w1 w2 v v') {k : Nat} (hk : v'.ownBlock = some k) : v.ownBlock = some k ∨ w1.heap.size ≤ k := by
  rcases hg.alt with e | ⟨e, _⟩
  · exact .inl (e ▸ hk)
  · exact .inr (e k hk)
theorem Grow.keepQ {v : Value} (hg : Grow w1 w2 v v') : Keep (fun k => v.ownBlock = some k) w1 w2 := ⟨hg.os, hg.tape, hg.output, hg.size, hg.old⟩
theorem Keep.transQ {T : Nat → Prop} (h : Keep S w w1) (k : Keep T w1 w2) (hT : ∀ j, j < w.heap.size → T j → S j) : Keep S w w2 := h.trans k hT
theorem Kq.growX (h : Kq S w w1 vg vh x) (hg : Grow w1 w2 x v') : Kq S w w2 vg vh v' := by
  refine ⟨h.keep.trans hg.keepQ fun j hj e => ?_, h.g, h.h, fun k hk => ?_⟩
  · rcases h.x j e with e | e
    · exact e
    · omega
  · rcases hg.new hk with e | e
    · exact h.x k e
    · exact .inr (Nat.le_trans h.size e)
theorem Kq.growG (h : Kq S w w1 vg vh x) (hg : Grow w1 w2 vg v') {X : Nat} (hX : S X) (o : Nat) (y : Value) : Kq S w (w2.setCell ⟨X, o, .none⟩ y) v' vh x := by
  refine ⟨(h.keep.trans hg.keepQ fun j hj e => ?_).trans (Keep.ofSet (S := S) w2 X o y hX) (fun _ _ e => e), fun k hk => ?_, h.h, h.x⟩
  · have := h.g j e; omega
  · rcases hg.new hk with e | e
    · exact h.g k e
    · exact Nat.le_trans h.size e
theorem Kq.growH (h : Kq S w w1 vg vh x) (hg : Grow w1 w2 vh v') {X : Nat} (hX : S X) (o : Nat) (y : Value) : Kq S w (w2.setCell ⟨X, o, .none⟩ y) vg v' x := by
  refine ⟨(h.keep.trans hg.keepQ fun j hj e => ?_).trans (Keep.ofSet (S := S) w2 X o y hX) (fun _ _ e => e), h.g, fun k hk => ?_, h.x⟩
  · have := h.h j e; omega
  · rcases hg.new hk with e | e
    · exact h.h k e
    · exact Nat.le_trans h.size e
end
set_option maxRecDepth 100000 in
set_option maxHeartbeats 4000000 in
theorem still12_any (X base N : Nat) (vf vw : Value) (us cs : List Value) (Ls : List (List (List UInt8))) (w : World)
    (hX : w.heap[X]? = some (.cells #[vf, vw, .slice none 0 0, .slice none 0 0, .slice none 0 0] 40 (0, 0))) (hf : Own w base vf us) (hw : Own w base vw cs) (n1 : us.length = N) (n2 : cs.length = N) (n3 : Ls.length = N) (n4 : 0 < N) (n5 : N ≤ 200)
    (hus : ∀ (i : Nat) (u : Value) (L : List (List UInt8)), us[i]? = some u → Ls[i]? = some L → Own w base u (svs L) ∧ L.length ≤ 1000000) (hcs : ∀ (i : Nat) (c : Value) (L : List (List UInt8)), cs[i]? = some c → Ls[i]? = some L → Own w base c (svs L))
    (hap : ∀ (i : Nat) (u : Value) (g : Nat), us[i]? = some u → u.ownBlock = some g → g ≠ X) (hdi : ∀ (i j : Nat) (u v : Value) (g : Nat), us[i]? = some u → us[j]? = some v → u.ownBlock = some g → v.ownBlock = some g → i = j) (hbase : base ≤ w.heap.size) :
    Calls Tryz.prog 21 #[.pointer (some ⟨X, 0, none⟩)] w fun e w' => e = .returned (.bool true) ∧ Keep (Sd X us) w w' := by
  have hXl := lt_of_heap hX
  have c0 : w.cell? ⟨X, 0, none⟩ = some vf := by rw [cell_of_row _ _ _ _ _ _ hX]; rfl
  have c1 : w.cell? ⟨X, 1, none⟩ = some vw := by rw [cell_of_row _ _ _ _ _ _ hX]; rfl
  have c2 : w.cell? ⟨X, 2, none⟩ = some (.slice none 0 0) := by rw [cell_of_row _ _ _ _ _ _ hX]; rfl
  have Hf := hid hf
  have Hw := hid hw
  have HX := hid hX
  have Hus := hid hus
  have Hcs := hid hcs
  have Hap := hid hap
  have Hdi := hid hdi
  obtain ⟨fb, fc, rfl, fb1, fb2⟩ := ownSome hf (by omega)
  obtain ⟨wb, wc, rfl, wb1, wb2⟩ := ownSome hw (by omega)
  rw [n1] at c0
  rw [n2] at c1
  clear hX hf hw hus hcs hap hdi
  go_enter Tryz.func21, Tryz.ntmps21
  go_wp2
  go_loopw [3] (fun i w' => ∃ k : Nat, k ≤ N ∧ i = .int .i64 (k : Int) ∧ Hid (Below w.heap.size w w' ∧ w'.heap = w.heap)) (fun i _ => N - (intOf i).toNat)
  case atStart => exact ⟨0, by omega, rfl, hid ⟨Below.refl _ _, rfl⟩⟩
  case round =>
    obtain ⟨k, hk, rfl, hw'⟩ := hrel
    rw [← heapCell hw'.out.2 ⟨X, 0, none⟩] at c0
    rw [← heapCell hw'.out.2 ⟨X, 1, none⟩] at c1
    rw [← heapCell hw'.out.2 ⟨X, 2, none⟩] at c2
    by_cases hkN : k < N
    · have b0 : (k : Int) < (N : Int) := by omega
      obtain ⟨u, hu⟩ : ∃ u, us[k]? = some u := ⟨_, List.getElem?_eq_getElem (by omega)⟩
      obtain ⟨c, hc⟩ : ∃ c, cs[k]? = some c := ⟨_, List.getElem?_eq_getElem (by omega)⟩
      obtain ⟨L, hL⟩ : ∃ L, Ls[k]? = some L := ⟨_, List.getElem?_eq_getElem (by omega)⟩
      obtain ⟨o1, hL1⟩ := Hus.out k u L hu hL
      have o2 := Hcs.out k c L hc hL
      have d0 := (heapCell hw'.out.2 ⟨fb, k, none⟩).trans (own_cell Hf.out rfl hu)
      have d1 := (heapCell hw'.out.2 ⟨wb, k, none⟩).trans (own_cell Hw.out rfl hc)
      obtain ⟨ua, uc, rfl⟩ := ownShape o1
      obtain ⟨ca, cc, rfl⟩ := ownShape o2
      rw [svs_length] at d0 d1
      have A1 := (ownAt o1).heap hw'.out.2
      have A2 := (ownAt o2).heap hw'.out.2
      have hs := fun w'' (e : w''.heap = wr.heap) => same_yes L ua ca uc cc w'' (A1.heap e) (A2.heap e) (by omega)
      obtain ⟨n, hn⟩ : ∃ n, L.length = n := ⟨_, rfl⟩
      rw [hn] at d0 d1 hs
      clear o1 o2 A1 A2 hu hc hL Hf Hw Hus Hcs
      go_wp2
      go_region_held3 (fun w' => w'.cell? ⟨X, 0, none⟩ = some (.slice (some ⟨fb, 0, none⟩) N fc) ∧ w'.cell? ⟨X, 1, none⟩ = some (.slice (some ⟨wb, 0, none⟩) N wc) ∧ w'.cell? ⟨fb, k, none⟩ = some (.slice ua n uc) ∧ w'.cell? ⟨wb, k, none⟩ = some (.slice ca n cc)) (first | exact e4 | exact ⟨c0, c1, d0, d1⟩)
        (first | (go_at_call 18; (with_reducible refine (hs wr.drew rfl).mono ?_); rintro e w2 ⟨rfl, hw2, hh2'⟩; have hh2 : w2.heap = wr.heap := hh2'; have e4 := And.intro ((heapCell hh2 ⟨X, 0, none⟩).trans c0) (And.intro ((heapCell hh2 ⟨X, 1, none⟩).trans c1) (And.intro ((heapCell hh2 ⟨fb, k, none⟩).trans d0) ((heapCell hh2 ⟨wb, k, none⟩).trans d1)))))
      go_wp2
      exact ⟨⟨k + 1, by omega, by go_num, hid ⟨hw'.out.1.trans (((Below.refl wr.heap.size wr).drew.trans hw2).mono hw'.out.1.size), hh2.trans hw'.out.2⟩⟩, by simp [intOf]; omega⟩
    · obtain rfl : N = k := by omega
      have b0 : ¬ (N : Int) < (N : Int) := by omega
      have Hfd : Own wr.drew base (.slice (some ⟨fb, 0, none⟩) us.length fc) us := (Hf.out.same (w' := wr) (by rw [hw'.out.2]; exact Nat.le_refl _) (fun g _ => by rw [hw'.out.2])).drew
      have h1c : ∀ u ∈ us, u.oneCell' = true := fun u hu => by
        obtain ⟨i, hi⟩ := List.mem_iff_getElem?.1 hu
        obtain ⟨L, hL⟩ : ∃ L, Ls[i]? = some L := ⟨_, List.getElem?_eq_getElem (by have := (List.getElem?_eq_some_iff.1 hi).1; omega)⟩
        obtain ⟨a', c', e⟩ := ownShape (Hus.out i u L hi hL).1
        rw [e]; rfl
      obtain ⟨vl, w3, hap3, hO3, hb3⟩ := append_free wr.drew base _ us Hfd h1c (by omega) (by omega)
      rw [n1] at hap3
      obtain ⟨lb, lc, hvl, lb1, lb2⟩ := ownSome hO3 (by omega)
      have hrX : wr.heap[X]? = some (.cells #[.slice (some ⟨fb, 0, none⟩) us.length fc, .slice (some ⟨wb, 0, none⟩) cs.length wc, .slice none 0 0, .slice none 0 0, .slice none 0 0] 40 (0, 0)) := by rw [hw'.out.2]; exact HX.out
      have hXr : X < wr.heap.size := lt_of_heap hrX
      have r3 : w3.heap[X]? = some (.cells #[.slice (some ⟨fb, 0, none⟩) us.length fc, .slice (some ⟨wb, 0, none⟩) cs.length wc, .slice none 0 0, .slice none 0 0, .slice none 0 0] 40 (0, 0)) := (hb3.block X hXr).trans hrX
      have e2 : w3.cell? ⟨X, 2, none⟩ = some (.slice none 0 0) := by rw [cell_of_row _ _ _ _ _ _ r3]; rfl
      have f2 : w3.frozen? ⟨X, 2, none⟩ = false := frozen_of_row _ _ _ _ _ r3
      have r4 := heap_setCell_same w3 X 2 _ _ vl r3
      have r5 := heap_setCell_same _ X 0 _ _ (.slice none 0 0) r4
      have r6 := heap_setCell_same _ X 1 _ _ (.slice none 0 0) r5
      have g4 : (w3.setCell ⟨X, 2, none⟩ vl).cell? ⟨X, 0, none⟩ = some (.slice (some ⟨fb, 0, none⟩) us.length fc) := by rw [cell_of_row _ _ _ _ _ _ r4]; rfl
      have f4 : (w3.setCell ⟨X, 2, none⟩ vl).frozen? ⟨X, 0, none⟩ = false := frozen_of_row _ _ _ _ _ r4
      have g5 : ((w3.setCell ⟨X, 2, none⟩ vl).setCell ⟨X, 0, none⟩ (.slice none 0 0)).cell? ⟨X, 1, none⟩ = some (.slice (some ⟨wb, 0, none⟩) cs.length wc) := by rw [cell_of_row _ _ _ _ _ _ r5]; rfl
      have f5 : ((w3.setCell ⟨X, 2, none⟩ vl).setCell ⟨X, 0, none⟩ (.slice none 0 0)).frozen? ⟨X, 1, none⟩ = false := frozen_of_row _ _ _ _ _ r5
      have hset : ∀ (w' : World) (o : Nat) (v : Value) (b : Nat), b ≠ X → (w'.setCell ⟨X, o, none⟩ v).heap[b]? = w'.heap[b]? := fun w' o v b hb => Below.heap_setCell w' _ v b hb
      have hss : ∀ (w' : World) (o : Nat) (v : Value), (w'.setCell ⟨X, o, none⟩ v).heap.size = w'.heap.size := fun w' o v => by simp [World.setCell]
      obtain ⟨W, hW⟩ : ∃ W, ((w3.setCell ⟨X, 2, none⟩ vl).setCell ⟨X, 0, none⟩ (.slice none 0 0)).setCell ⟨X, 1, none⟩ (.slice none 0 0) = W := ⟨_, rfl⟩
      have hWs : W.heap.size = w3.heap.size := by rw [← hW, hss, hss, hss]
      have hWb : ∀ b, b ≠ X → W.heap[b]? = w3.heap[b]? := fun b hb => by rw [← hW, hset _ _ _ _ hb, hset _ _ _ _ hb, hset _ _ _ _ hb]
      have hww : w3.heap.size ≥ w.heap.size := by have := hb3.size; rw [show wr.drew.heap = wr.heap from rfl, hw'.out.2] at this; exact this
      have hwb : ∀ b, b < w.heap.size → b ≠ X → W.heap[b]? = w.heap[b]? := fun b h1 h2 => by
        rw [hWb b h2, hb3.block b (by show b < wr.heap.size; rw [hw'.out.2]; exact h1)]
        show wr.heap[b]? = _
        rw [hw'.out.2]
      have m2 : Hid (M2 W X base vl us Ls) := by
        rw [hW] at r6
        refine ⟨r6, (hO3.mono (by show base ≤ wr.heap.size; rw [hw'.out.2]; exact hbase)).same (by rw [hWs]; exact Nat.le_refl _) fun b hb => hWb b fun e => ?_, by omega, fun b hb e => ?_, fun i u L h1 h2 => ?_, fun i u g h1 h2 => ⟨Hap.out i u g h1 h2, fun e => ?_⟩, Hdi.out⟩
        · have := hO3.ge b hb
          have : wr.heap.size ≤ b := this
          omega
        · have : wr.heap.size ≤ b := hO3.ge b hb
          omega
        · obtain ⟨o1, o2⟩ := Hus.out i u L h1 h2
          exact ⟨o1.same (by rw [hWs]; exact hww) fun b hb => hwb b (o1.lt b hb) (Hap.out i u b h1 hb), o2⟩
        · have : wr.heap.size ≤ g := hO3.ge g e
          obtain ⟨L, hL⟩ : ∃ L, Ls[i]? = some L := ⟨_, List.getElem?_eq_getElem (by have := (List.getElem?_eq_some_iff.1 h1).1; omega)⟩
          have := (Hus.out i u L h1 hL).1.lt g h2
          rw [hw'.out.2] at *
          omega
      have hBW : Hid (Keep (Sd X us) w W) := by
        have b1 : Keep (Sd X us) w w3 := (Keep.ofBelow (S := Sd X us) hw'.out.1).trans (Keep.ofBelow (S := Sd X us) ((Below.refl wr.heap.size wr).drew.trans hb3)) (fun _ _ h => h)
        rw [← hW]
        exact ((b1.trans (Keep.ofSet (S := Sd X us) _ X 2 _ (Or.inl rfl)) (fun _ _ h => h)).trans (Keep.ofSet (S := Sd X us) _ X 0 _ (Or.inl rfl)) (fun _ _ h => h)).trans (Keep.ofSet (S := Sd X us) _ X 1 _ (Or.inl rfl)) (fun _ _ h => h)
      rw [n1] at g4
      rw [n2] at g5
      subst hvl
      rw [n1] at *
      clear Hfd h1c hO3 hb3 r3 r4 r5 r6 hset hss hWs hWb hww hwb Hf Hw HX Hus Hcs Hap Hdi hrX hXr hw' lb1 lb2
      go_wp2
      go_cut [5] (fun v w' => v = .int .i64 0 ∧ w' = w3.setCell ⟨X, 2, none⟩ (.slice (some ⟨lb, 0, none⟩) N lc))
      case first =>
        go_region_law (refine step_append_run rfl _ _ 38 rfl (.slice none 0 0) _ _ w3 rfl rfl hap3 ?_)
        all_goals
          go_wp2_with fail
          go_meet
          exact ⟨rfl, rfl⟩
      case rest =>
        obtain ⟨rfl, rfl⟩ := hcut
        go_wp2
        try rw [hW]
        clear hW g4 g5 f4 f5 e2 f2 hap3 c0 c1 c2 b0
        obtain ⟨vl, hvl⟩ : ∃ vl : Value, vl = .slice (some ⟨lb, 0, none⟩) N lc := ⟨_, rfl⟩
        rw [← hvl] at m2
        go_loopw [6] (fun i w' => ∃ (k : Nat) (Ls' : List (List (List UInt8))), k ≤ N ∧ i = .int .i64 (k : Int) ∧ Hid (M2 w' X base vl us Ls') ∧ Hid (∀ (j : Nat) (L : List (List UInt8)), j < k → Ls'[j]? = some L → L = List.replicate L.length (mrk j)) ∧ Hid (Keep (Sd X us) w w')) (fun i _ => N - (intOf i).toNat)
        case atStart => exact ⟨0, Ls, by omega, rfl, m2, (fun j L hj => by omega), hBW⟩
        case round =>
          clear m2 hBW
          obtain ⟨k, Ls', hk, rfl, m2, hmk, hB⟩ := hrel
          have hul : us.length = N := by
            have := m2.out.lists
            rcases own_cases this with ⟨e, _⟩ | ⟨g, c, e, _⟩
            · rw [hvl] at e; cases e
            · rw [hvl] at e; injection e with _ e2; exact e2.symm
          have c2 : wr.cell? ⟨X, 2, none⟩ = some (.slice (some ⟨lb, 0, none⟩) N lc) := by rw [cell_of_row _ _ _ _ _ _ m2.out.row, hvl]; rfl
          by_cases hkN : k < N
          · have b0 : (k : Int) < (N : Int) := by omega
            obtain ⟨u, hu⟩ : ∃ u, us[k]? = some u := ⟨_, List.getElem?_eq_getElem (by omega)⟩
            obtain ⟨L0, hL0⟩ : ∃ L, Ls'[k]? = some L := ⟨_, List.getElem?_eq_getElem (by have := m2.out.len; omega)⟩
            have d2 := own_cell m2.out.lists (g := lb) (by rw [hvl]; rfl) hu
            obtain ⟨ua, uc, hue⟩ := ownShape (m2.out.own k u L0 hu hL0).1
            rw [svs_length] at hue
            obtain ⟨n, hn⟩ : ∃ n, L0.length = n := ⟨_, rfl⟩
            rw [hn] at hue
            have hn1 := (m2.out.own k u L0 hu hL0).2
            rw [hue] at d2
            obtain ⟨MB, hMB⟩ : ∃ MB : ByteArray, Hid (sv (mrk k) = .string MB) := ⟨⟨(mrk k).toArray⟩, rfl⟩
            have hmark := fun w' => mark_at k (by omega) w'
            rw [hMB.out] at hmark
            have HU := hid hu
            have HUE := hid hue
            go_wp2
            obtain ⟨wo, rfl⟩ : ∃ wo : World, wo = wr := ⟨_, rfl⟩
            go_loopw [7] (fun i w' => ∃ (kk : Nat) (Ls2 : List (List (List UInt8))) (L' : List (List UInt8)), kk ≤ n ∧ i = .int .i64 (kk : Int) ∧ Hid (M2 w' X base vl us Ls2) ∧ Hid (∀ (j : Nat) (L : List (List UInt8)), j < k → Ls2[j]? = some L → L = List.replicate L.length (mrk j)) ∧ Hid (Ls2[k]? = some L') ∧ Hid (L'.length = n) ∧ Hid (L'.take kk = List.replicate kk (mrk k)) ∧ Hid (Keep (Sd X us) w w')) (fun i _ => n - (intOf i).toNat)
            case atStart => exact ⟨0, Ls', L0, by omega, rfl, m2, hmk, hL0, hn, rfl, hB⟩
            case round =>
              clear m2 hmk hB c2 d2 hL0
              obtain ⟨kk, Ls2, L', hkk, rfl, m2, hmk, hL', hLn, htk, hB⟩ := hrel
              have c2 : wr.cell? ⟨X, 2, none⟩ = some (.slice (some ⟨lb, 0, none⟩) N lc) := by rw [cell_of_row _ _ _ _ _ _ m2.out.row, hvl]; rfl
              have d2 := own_cell m2.out.lists (g := lb) (by rw [hvl]; rfl) HU.out
              rw [HUE.out] at d2
              by_cases hkn : kk < n
              · have b1 : (kk : Int) < (n : Int) := by omega
                have ho := (m2.out.own k u L' HU.out hL'.out).1
                obtain ⟨g, gc, hg, g1, g2⟩ := ownSome ho (by rw [svs_length, hLn.out]; omega)
                rw [svs_length, hLn.out] at hg
                have hg' := HUE.out.symm.trans hg
                injection hg' with e1 e2 e3
                subst e1
                obtain ⟨xo, hxo⟩ : ∃ xo, (svs L')[kk]? = some xo := ⟨_, List.getElem?_eq_getElem (by rw [svs_length, hLn.out]; exact hkn)⟩
                have hout := hid hg
                have hdr : M2 wr.drew X base vl us Ls2 := m2.out.below (Below.refl wr.heap.size wr).drew
                have HD := hid hdr
                clear hdr ho e2 e3
                go_wp2
                go_region_with ((go_at_call 39; refine (hmark _).mono ?_; rintro e w2 ⟨rfl, hw2⟩; have M3 := HD.out.below hw2; have c3 : w2.cell? ⟨X, 2, none⟩ = some (.slice (some ⟨lb, 0, none⟩) N lc) := (by rw [cell_of_row _ _ _ _ _ _ M3.row, hvl]; rfl); have d3 := own_cell M3.lists (g := lb) (by rw [hvl]; rfl) HU.out; rw [HUE.out] at d3; have o3 := (M3.own k u L' HU.out hL'.out).1; have x3 := own_cell o3 (g := g) (by rw [HUE.out]; rfl) hxo; have z3 := ownFree o3 (g := g) (by rw [HUE.out]; rfl) hxo))
                all_goals go_wp2
                all_goals
                  have M4 := M3.set (i := k) (g := g) (n := n) (c := uc) (k := kk) (by rw [HU.out, HUE.out]) hL'.out (by rw [hLn.out]; exact hkn) (mrk k)
                  rw [hMB.out] at M4
                  have hB4 := (hB.out.trans (Keep.ofBelow (S := Sd X us) ((Below.refl wr.heap.size wr).drew.trans hw2)) (fun _ _ h => h)).trans (Keep.ofSet (S := Sd X us) _ g kk (.string MB) (Or.inr ⟨k, u, HU.out, by rw [HUE.out]; rfl⟩)) (fun _ _ h => h)
                  exact ⟨⟨kk + 1, Ls2.set k (L'.set kk (mrk k)), L'.set kk (mrk k), by omega, by go_num, hid M4, hid (fun j L hj h => hmk.out j L hj (by rw [List.getElem?_set_ne (by omega)] at h; exact h)), hid (List.getElem?_set_self (List.getElem?_eq_some_iff.1 hL'.out).1), hid (by rw [List.length_set]; exact hLn.out), hid (take_set L' kk (by rw [hLn.out]; exact hkn) _ htk.out), hid hB4⟩, by simp [intOf]; omega⟩
              · have b1 : ¬ (kk : Int) < (n : Int) := by omega
                go_wp2
                refine ⟨⟨k + 1, Ls2, by omega, by go_num, m2, hid (fun j L hj h => ?_), hB⟩, by simp [intOf]; omega⟩
                by_cases e : j < k
                · exact hmk.out j L e h
                · obtain rfl : k = j := by omega
                  rw [hL'.out] at h
                  obtain rfl := Option.some.inj h
                  have := htk.out
                  rw [List.take_of_length_le (by rw [hLn.out]; omega)] at this
                  rw [this, List.length_replicate]
          · obtain rfl : N = k := by omega
            have b0 : ¬ (N : Int) < (N : Int) := by omega
            obtain ⟨μ, hSt, hXs⟩ := m2.out.start (fun j L h => hmk.out j L (by have := (List.getElem?_eq_some_iff.1 h).1; have := m2.out.len; omega) h)
            have S0 := hid hSt
            have XS0 := hid hXs
            clear hSt hXs m2 hmk
            go_wp2
            go_loopw [8] (fun i w' => ∃ (k : Nat) (vg vh : Value) (GS : List Value) (HS : List Nat) (μ : Mu), k ≤ N ∧ i = .int .i64 (k : Int) ∧ Hid (St w' X base vl vg vh us GS HS μ) ∧ Hid (GS.length = HS.length ∧ HS.length = 20 * k) ∧ Hid (∀ (j : Nat) (u : Value), k ≤ j → us[j]? = some u → ∃ n, n ≤ 1000000 ∧ Xs w' base u j n μ) ∧ Hid (Kq (Sd X us) w w' vg vh (.slice none 0 0))) (fun i _ => N - (intOf i).toNat)
            case atStart => exact ⟨0, _, _, [], [], μ, by omega, rfl, S0, ⟨rfl, rfl⟩, (fun j u _ h => XS0.out j u h), hid ⟨hB.out, fun k e => (by cases e), fun k e => (by cases e), fun k e => (by cases e)⟩⟩
            case round =>
              clear S0 XS0 hB c2
              obtain ⟨k, vg, vh, GS, HS, μ, hk, rfl, S, hlen, hXs, hB⟩ := hrel
              have c2 := S.out.c2
              rw [hvl] at c2
              by_cases hkN : k < N
              · have b0 : (k : Int) < (N : Int) := by omega
                obtain ⟨u, hu⟩ : ∃ u, us[k]? = some u := ⟨_, List.getElem?_eq_getElem (by omega)⟩
                have d2 := own_cell S.out.lists (g := lb) (by rw [hvl]; rfl) hu
                obtain ⟨n, hn, hx0⟩ := hXs.out k u (Nat.le_refl _) hu
                obtain ⟨ua, un, uc, hue⟩ := own_sl hx0.own
                rw [hue] at d2
                have XS := hid hx0
                obtain ⟨MB, hMB⟩ : ∃ MB : ByteArray, Hid (sv (mrk k) = .string MB) := ⟨⟨(mrk k).toArray⟩, rfl⟩
                have hmark := fun w' => mark_at k (by omega) w'
                rw [hMB.out] at hmark
                have XO : Hid (∀ (j : Nat) (u : Value), k < j → us[j]? = some u → ∃ n, n ≤ 1000000 ∧ Xs wr base u j n μ) := fun j u h1 h2 => hXs.out j u (by omega) h2
                have KX : Hid (Kq (Sd X us) w wr vg vh (.slice ua un uc)) := ⟨hB.out.keep, hB.out.g, hB.out.h, fun e he => .inl (.inr ⟨k, u, hu, by rw [hue]; exact he⟩)⟩
                clear hx0 hXs
                rw [hue] at XS
                go_wp2
                obtain ⟨wo, rfl⟩ : ∃ wo : World, wo = wr := ⟨_, rfl⟩
                go_loopw [9, 10] (fun x kk w' => ∃ (t : Nat) (vg vh : Value) (GS : List Value) (HS : List Nat) (μ : Mu), t ≤ 20 ∧ kk = .int .i64 (t : Int) ∧ Hid (St w' X base vl vg vh us GS HS μ) ∧ Hid (GS.length = HS.length ∧ HS.length = 20 * k + t) ∧ Hid (Xs w' base x k (n + t) μ) ∧ Hid (∀ (j : Nat) (u : Value), k < j → us[j]? = some u → ∃ n, n ≤ 1000000 ∧ Xs w' base u j n μ) ∧ Hid (Kq (Sd X us) w w' vg vh x)) (fun _ kk _ => 20 - (intOf kk).toNat)
                case atStart => exact ⟨0, vg, vh, GS, HS, μ, by omega, rfl, S, hlen, XS, XO, KX⟩
                case round =>
                  clear S hlen XS XO hB KX c2 d2
                  obtain ⟨t, vg, vh, GS, HS, μ, ht, rfl, S, hlen, XS, XO, hB⟩ := hrel
                  by_cases ht2 : t < 20
                  · have b1 : (t : Int) < 20 := by omega
                    obtain ⟨xa0, xn0, xc0, rfl⟩ := own_sl XS.out.own
                    obtain ⟨ga0, gn0, gc0, rfl⟩ := own_sl S.out.grown
                    obtain ⟨ha0, hn0, hc0, rfl⟩ := own_sl S.out.whose
                    go_wp2_with (go_at_call 39; fail)
                    refine (hmark _).mono ?_
                    rintro e w2 ⟨rfl, hw2⟩
                    have B2 := hB.out.below hw2
                    have S2 := S.out.below hw2
                    have X2 := XS.out.below hw2
                    have XO2 : ∀ (j : Nat) (u : Value), k < j → us[j]? = some u → ∃ n, n ≤ 1000000 ∧ Xs w2 base u j n μ := fun j u h1 h2 => by
                      obtain ⟨n', a1, a2⟩ := XO.out j u h1 h2
                      exact ⟨n', a1, a2.below hw2⟩
                    obtain ⟨x', w3, hap3, hO3, hG3⟩ := append_one 24 9 (.string ⟨#[]⟩) 16 (by decide) Tryz.underlying24 infoS rfl w2 base _ _ (.string MB) rfl X2.own (by rw [svs_length, List.length_replicate]; omega) (Nat.le_trans hbase B2.size)
                    rw [← hMB.out, svs_more] at hO3
                    obtain ⟨μ', S3, X3, hμ1, _⟩ := S2.growX X2 (by omega) hG3 hO3
                    have XO3 : ∀ (j : Nat) (u : Value), k < j → us[j]? = some u → ∃ n, n ≤ 1000000 ∧ Xs w3 base u j n μ' := fun j u h1 h2 => by
                      obtain ⟨n', a1, a2⟩ := XO2 j u h1 h2
                      exact ⟨n', a1, a2.other X2 (by omega) hG3 hμ1⟩
                    have B3 := B2.growX hG3
                    obtain ⟨xa', xn', xc', rfl⟩ := own_sl X3.own
                    obtain ⟨vg', w4, hap4, hO4, hG4⟩ := append_one 38 24 (.slice none 0 0) 24 (by decide) Tryz.underlying38 infoLS rfl w3 base (.slice ga0 gn0 gc0) GS (.slice xa' xn' xc') rfl S3.grown (by have := hlen.out; omega) (Nat.le_trans hbase B3.size)
                    obtain ⟨ga, gn, gc, rfl⟩ := own_sl hO4
                    obtain ⟨q1, q2, q5, q6⟩ := S3.field (.inl rfl) hG4
                    have S5 := S3.growG hlen.out.1 hG4 hO4
                    have X5 := Xs.book S3 X3 (.inl rfl) hG4 3 (.slice ga gn gc)
                    have XO5 : ∀ (j : Nat) (u : Value), k < j → us[j]? = some u → ∃ n, n ≤ 1000000 ∧ Xs (w4.setCell ⟨X, 3, none⟩ (.slice ga gn gc)) base u j n μ' := fun j u h1 h2 => by
                      obtain ⟨n', a1, a2⟩ := XO3 j u h1 h2
                      exact ⟨n', a1, Xs.book S3 a2 (.inl rfl) hG4 3 (.slice ga gn gc)⟩
                    have B5 := B3.growG hG4 (Or.inl rfl) 3 (.slice ga gn gc)
                    obtain ⟨vh', w6, hap6, hO6, hG6⟩ := append_one 22 3 (.int .i64 0) 8 (by decide) Tryz.underlying22 infoI3 rfl _ base (.slice ha0 hn0 hc0) (ins HS) (.int .i64 (k : Int)) rfl S5.whose (by rw [ins_length]; have := hlen.out; omega) (Nat.le_trans hbase B5.size)
                    rw [show (w4.setCell ⟨X, 3, none⟩ (.slice ga gn gc)).heap.size = w4.heap.size from by simp [World.setCell]] at hap6
                    obtain ⟨ha, hn', hc', rfl⟩ := own_sl hO6
                    obtain ⟨_, _, q3, q4⟩ := S5.field (.inr rfl) hG6
                    have S7 := hid (S5.growH hlen.out.1 (by omega) X5.en hG6 hO6)
                    have X7 := hid (Xs.book S5 X5 (.inr rfl) hG6 4 (.slice ha hn' hc'))
                    have XO7 : Hid (∀ (j : Nat) (u : Value), k < j → us[j]? = some u → ∃ n, n ≤ 1000000 ∧ Xs (w6.setCell ⟨X, 4, none⟩ (.slice ha hn' hc')) base u j n μ') := fun j u h1 h2 => by
                      obtain ⟨n', a1, a2⟩ := XO5 j u h1 h2
                      exact ⟨n', a1, Xs.book S5 a2 (.inr rfl) hG6 4 (.slice ha hn' hc')⟩
                    have B7 := hid (B5.growH hG6 (Or.inl rfl) 4 (.slice ha hn' hc'))
                    have c3 := S3.c3
                    have c5 := S5.c4
                    have hXw3 : X < w3.heap.size := lt_of_heap S3.row
                    have c3a := (alloc_cell hXw3 3 (.cells #[.slice xa' xn' xc'] 24)).trans c3
                    clear S2 X2 XO2 B2 S3 X3 XO3 B3 S5 X5 XO5 B5 hO3 hO4 hO6 hG3 hG4 hG6 S XS XO hB hw2 hμ1
                    go_wp2_with (first
                      | ((with_reducible show wpList _ _ _ (Oper.mk _ (Op.call { callee := Callee.builtin Builtin.append, args := _, argTypes := #[24, 24] }) _ _ _ _ :: _) _ _); go_must (refine Lib.wpList_append_run _ rfl _ _ 24 24 rfl _ _ rfl rfl _ _ hap3 ?_))
                      | ((with_reducible show wpList _ _ _ (Oper.mk _ (Op.call { callee := Callee.builtin Builtin.append, args := _, argTypes := #[38, 38] }) _ _ _ _ :: _) _ _); go_must (refine Lib.wpList_append_run _ rfl _ _ 38 38 rfl _ _ rfl rfl _ _ hap4 ?_))
                      | ((with_reducible show wpList _ _ _ (Oper.mk _ (Op.call { callee := Callee.builtin Builtin.append, args := _, argTypes := #[22, 22] }) _ _ _ _ :: _) _ _); go_must (refine Lib.wpList_append_run _ rfl _ _ 22 22 rfl _ _ rfl rfl _ _ hap6 ?_)))
                    have fl : Hid ((GS ++ [Value.slice xa' xn' xc']).length = (HS ++ [k]).length ∧ (HS ++ [k]).length = 20 * k + (t + 1)) := by
                      have := hlen.out
                      refine ⟨?_, ?_⟩ <;> simp <;> omega
                    refine ⟨?_, by simp [intOf]; omega⟩
                    first
                      | exact ⟨t + 1, (.slice ga gn gc), (.slice ha hn' hc'), _, _, μ', by omega, by go_num, S7, fl, X7, XO7, B7⟩
                      | (repeat apply Exists.intro
                         exact ⟨⟨t + 1, (.slice ga gn gc), (.slice ha hn' hc'), _, _, μ', by omega, by go_num, S7, fl, X7, XO7, B7⟩, rfl⟩)
                  · have b1 : ¬ (t : Int) < 20 := by omega
                    have fl : Hid (GS.length = HS.length ∧ HS.length = 20 * (k + 1)) := by
                      have := hlen.out
                      refine ⟨?_, ?_⟩ <;> omega
                    go_wp2
                    refine ⟨?_, by simp [intOf]; omega⟩
                    first
                      | exact ⟨k + 1, vg, vh, GS, HS, μ, by omega, by go_num, S, fl, (fun j u h1 h2 => XO.out j u (by omega) h2), hid hB.out.none⟩
                      | (repeat apply Exists.intro
                         exact ⟨⟨k + 1, vg, vh, GS, HS, μ, by omega, by go_num, S, fl, (fun j u h1 h2 => XO.out j u (by omega) h2), hid hB.out.none⟩, rfl⟩)
              · obtain rfl : N = k := by omega
                have b0 : ¬ (N : Int) < (N : Int) := by omega
                have hGl : GS.length = 20 * N := by have := hlen.out; omega
                have hHl : HS.length = 20 * N := by have := hlen.out; omega
                clear hXs hlen
                go_wp2
                go_loopw [11] (fun i w' => ∃ k : Nat, k ≤ N ∧ i = .int .i64 (k : Int) ∧ Hid (St w' X base vl vg vh us GS HS μ) ∧ Hid (Kq (Sd X us) w w' vg vh (.slice none 0 0))) (fun i _ => N - (intOf i).toNat)
                case atStart => exact ⟨0, by omega, rfl, S, hB⟩
                case round =>
                  clear S hB c2
                  obtain ⟨k, hk, rfl, S, hB⟩ := hrel
                  have c2 := S.out.c2
                  rw [hvl] at c2
                  by_cases hkN : k < N
                  · have b1 : (k : Int) < (N : Int) := by omega
                    obtain ⟨u, hu⟩ : ∃ u, us[k]? = some u := ⟨_, List.getElem?_eq_getElem (by omega)⟩
                    obtain ⟨ua, n, uc, hue, hn2, hA⟩ := S.out.reads (S.out.lst k u hu)
                    have d2 := own_cell S.out.lists (g := lb) (by rw [hvl]; rfl) hu
                    rw [hue] at d2
                    obtain ⟨MB, hMB, hMl⟩ : ∃ MB : ByteArray, Hid (sv (mrk k) = .string MB) ∧ Hid (mrk k = MB.data.toList) := ⟨⟨(mrk k).toArray⟩, rfl, rfl⟩
                    have hmark := fun w' => mark_at k (by omega) w'
                    rw [hMB.out] at hmark
                    rw [hMl.out] at hA
                    have HA := hid hA
                    have xb1 := hid (lt_of_heap S.out.row)
                    have lb1 := hid (S.out.lists.lt lb (by rw [hvl]; rfl))
                    clear hA hu hue
                    go_wp2
                    go_region_held3 (fun w' => w'.cell? ⟨X, 2, none⟩ = some (.slice (some ⟨lb, 0, none⟩) N lc) ∧ w'.cell? ⟨lb, k, none⟩ = some (.slice ua n uc)) (first | exact ⟨c4, d4⟩ | exact ⟨c3, d3⟩ | exact ⟨c2, d2⟩) (first
                      | (go_at_call 39; (with_reducible refine (hmark _).mono ?_); rintro e w2 ⟨rfl, hw2'⟩; have hw2 := (Below.refl wr.heap.size wr).drew.trans hw2'; have c3 := (hw2.cell (p := ⟨X, 2, none⟩) xb1.out).trans c2; have d3 := (hw2.cell (p := ⟨lb, k, none⟩) lb1.out).trans d2; have A2 := hid (HA.out.below hw2 (Nat.le_refl _)))
                      | (go_at_call 40; (with_reducible refine (reads_yes n MB ua uc _ A2.out (by omega)).mono ?_); rintro e w3 ⟨rfl, hw3, hh3⟩; have c4 := (heapCell hh3 ⟨X, 2, none⟩).trans c3; have d4 := (heapCell hh3 ⟨lb, k, none⟩).trans d3))
                    go_wp2
                    have W3 := hw2.trans (hw3.mono hw2.size)
                    exact ⟨⟨k + 1, by omega, by go_num, hid (S.out.below W3), hid (hB.out.below W3)⟩, by simp [intOf]; omega⟩
                  · obtain rfl : N = k := by omega
                    have b1 : ¬ (N : Int) < (N : Int) := by omega
                    obtain ⟨gb, gc, hvg, _, gb1⟩ := ownSome S.out.grown (by omega)
                    obtain ⟨hb, hc, hvh, _, hb1⟩ := ownSome S.out.whose (by rw [ins_length]; omega)
                    rw [hGl] at hvg
                    rw [ins_length, hHl] at hvh
                    have c3 := S.out.c3
                    rw [hvg] at c3
                    clear gb1 hb1
                    obtain ⟨M, hM⟩ : ∃ M, 20 * N = M := ⟨_, rfl⟩
                    rw [hM] at c3 hvg hvh hGl hHl
                    go_wp2
                    go_loopw [13] (fun i w' => ∃ k : Nat, k ≤ M ∧ i = .int .i64 (k : Int) ∧ Hid (St w' X base vl vg vh us GS HS μ) ∧ Hid (Kq (Sd X us) w w' vg vh (.slice none 0 0))) (fun i _ => M - (intOf i).toNat)
                    case atStart => exact ⟨0, by omega, rfl, S, hB⟩
                    case round =>
                      clear S hB c2 c3
                      obtain ⟨k, hk, rfl, S, hB⟩ := hrel
                      have c3 := S.out.c3
                      rw [hvg] at c3
                      have c4 := S.out.c4
                      rw [hvh] at c4
                      by_cases hkM : k < M
                      · have b2 : (k : Int) < (M : Int) := by omega
                        obtain ⟨u, hu⟩ : ∃ u, GS[k]? = some u := ⟨_, List.getElem?_eq_getElem (by omega)⟩
                        obtain ⟨o, ho⟩ : ∃ o, HS[k]? = some o := ⟨_, List.getElem?_eq_getElem (by omega)⟩
                        have hoN : o < N := by
                          have := S.out.hs o (List.mem_of_getElem? ho)
                          omega
                        obtain ⟨ua, n, uc, hue, hn2, hA⟩ := S.out.reads (S.out.grn k u o hu ho)
                        have d3 := own_cell S.out.grown (g := gb) (by rw [hvg]; rfl) hu
                        rw [hue] at d3
                        have d4 := own_cell S.out.whose (g := hb) (by rw [hvh]; rfl) (show (ins HS)[k]? = some (.int .i64 (o : Int)) by rw [ins, List.getElem?_map, ho]; rfl)
                        obtain ⟨MB, hMB, hMl⟩ : ∃ MB : ByteArray, Hid (sv (mrk o) = .string MB) ∧ Hid (mrk o = MB.data.toList) := ⟨⟨(mrk o).toArray⟩, rfl, rfl⟩
                        have hmark := fun w' => mark_at o (by omega) w'
                        rw [hMB.out] at hmark
                        rw [hMl.out] at hA
                        have HA := hid hA
                        have xb1 := hid (lt_of_heap S.out.row)
                        have gb1 := hid (S.out.grown.lt gb (by rw [hvg]; rfl))
                        have hb1 := hid (S.out.whose.lt hb (by rw [hvh]; rfl))
                        clear hA hu ho hue
                        go_wp2
                        go_region_held3 (fun w' => w'.cell? ⟨X, 3, none⟩ = some (.slice (some ⟨gb, 0, none⟩) M gc) ∧ w'.cell? ⟨X, 4, none⟩ = some (.slice (some ⟨hb, 0, none⟩) M hc) ∧ w'.cell? ⟨gb, k, none⟩ = some (.slice ua n uc) ∧ w'.cell? ⟨hb, k, none⟩ = some (.int .i64 (o : Int))) (first | exact e3 | exact e2 | exact ⟨c3, c4, d3, d4⟩) (first
                          | (go_at_call 39; (with_reducible refine (hmark _).mono ?_); rintro e w2 ⟨rfl, hw2'⟩; have hw2 := (Below.refl wr.heap.size wr).drew.trans hw2'; have e2 := And.intro ((hw2.cell (p := ⟨X, 3, none⟩) xb1.out).trans c3) (And.intro ((hw2.cell (p := ⟨X, 4, none⟩) xb1.out).trans c4) (And.intro ((hw2.cell (p := ⟨gb, k, none⟩) gb1.out).trans d3) ((hw2.cell (p := ⟨hb, k, none⟩) hb1.out).trans d4))); have A2 := hid (HA.out.below hw2 (Nat.le_refl _)))
                          | (go_at_call 40; (with_reducible refine (reads_yes n MB ua uc _ A2.out (by omega)).mono ?_); rintro e w3 ⟨rfl, hw3, hh3⟩; have e3 := And.intro ((heapCell hh3 ⟨X, 3, none⟩).trans e2.1) (And.intro ((heapCell hh3 ⟨X, 4, none⟩).trans e2.2.1) (And.intro ((heapCell hh3 ⟨gb, k, none⟩).trans e2.2.2.1) ((heapCell hh3 ⟨hb, k, none⟩).trans e2.2.2.2)))))
                        go_wp2
                        have W3 := hw2.trans (hw3.mono hw2.size)
                        exact ⟨⟨k + 1, by omega, by go_num, hid (S.out.below W3), hid (hB.out.below W3)⟩, by simp [intOf]; omega⟩
                      · have b2 : ¬ (k : Int) < (M : Int) := by omega
                        go_wp2
                        go_ret
                        exact ⟨rfl, hB.out.keep⟩
end Go.Proofs.YtmpaliocfikifaaGreatDoor

namespace Go.Proofs.YtmpaliocfikifaaGreatDoor
open Go.RowKit Go.Shelf

theorem OwnM.set {m : Nat} {w : World} {g n c : Nat} {cs : List Value} (h : OwnM m w (.slice (some ⟨g, 0, none⟩) n c) n cs) {j : Nat} (hj : j < cs.length) (u : Value) :
    OwnM m (w.setCell ⟨g, j, none⟩ u) (.slice (some ⟨g, 0, none⟩) n c) n (cs.set j u) ∧ (∃ y, w.cell? ⟨g, j, none⟩ = some y) ∧ w.frozen? ⟨g, j, none⟩ = false := by
  rcases h with ⟨h, _⟩ | ⟨g', cap', h, h2, h3, h0, h4, h5, h6⟩
  · cases h
  injection h with e1 e2 e3
  injection e1 with e1
  injection e1 with e1
  subst e1 e3
  have ht := h5 j (by have := Nat.mul_le_mul_right m h2; omega)
  rw [Nat.zero_add] at ht
  obtain ⟨y, hy⟩ := Option.isSome_iff_exists.1 ht.1
  refine ⟨.inr ⟨g, c, rfl, h2, h3, by rw [List.length_set]; exact h0, ?_, ?_, by simpa [World.setCell] using h6⟩, ⟨y, hy⟩, ht.2⟩
  · intro k u' hk
    rw [List.getElem?_set] at hk
    rw [Nat.zero_add]
    split at hk
    · next e =>
      subst e
      (try split at hk) <;> first | (rw [World.cell?_setCell_same _ _ _ (by rw [hy]; try rfl)]; exact hk) | cases hk
    · next e =>
      rw [World.cell?_setCell_other _ _ _ _ (by simp; try exact fun e' => e e'.symm)]
      have := h4 k u' hk
      rwa [Nat.zero_add] at this
  · intro k hk
    have := h5 k hk
    rw [World.frozen?_setCell]
    refine ⟨?_, this.2⟩
    by_cases e : j = 0 + k
    · rw [← e, World.cell?_setCell_same _ _ _ (by rw [hy]; try rfl)]; rfl
    · rw [World.cell?_setCell_other _ _ _ _ (by simp; try exact fun e' => e (by omega))]; exact this.1
/-- blocks by their roles: only those of role r are written -/
structure Wr (ρ : Nat → Nat) (r : Nat) (w w' : World) : Prop where
  os : w'.os = w.os
  tape : w'.tape = w.tape
  output : w'.output = w.output
  size : w.heap.size ≤ w'.heap.size
  block : ∀ k, k < w.heap.size → ρ k ≠ r → w'.heap[k]? = w.heap[k]?
/-- what is new has this role -/
def rx (ρ : Nat → Nat) (w : World) (r : Nat) : Nat → Nat := fun k => if k < w.heap.size then ρ k else r
theorem rx_old {ρ : Nat → Nat} {w : World} {r k : Nat} (h : k < w.heap.size) : rx ρ w r k = ρ k := if_pos h
theorem rx_new {ρ : Nat → Nat} {w : World} {r k : Nat} (h : w.heap.size ≤ k) : rx ρ w r k = r := if_neg (by omega)
theorem Wr.grow {ρ : Nat → Nat} {r : Nat} {w w' : World} {v v' : Value} (hg : Grow w w' v v') (hr : ∀ k, v.ownBlock = some k → ρ k = r) : Wr ρ r w w' :=
  ⟨hg.os, hg.tape, hg.output, hg.size, fun k hk hne => hg.old k hk (fun e => hne (hr k e))⟩
theorem Wr.setCell {ρ : Nat → Nat} {r : Nat} {w w' : World} (h : Wr ρ r w w') {g : Nat} (hg : g < w.heap.size → ρ g = r) (o : Nat) (u : Value) : Wr ρ r w (w'.setCell ⟨g, o, none⟩ u) :=
  ⟨h.os, h.tape, h.output, by simpa [World.setCell] using h.size, fun k hk hne => (heap_setCell_other w' ⟨g, o, none⟩ k u (fun e => hne (by subst e; exact hg hk))).trans (h.block k hk hne)⟩
theorem Wr.refl (ρ : Nat → Nat) (r : Nat) (w : World) : Wr ρ r w w := ⟨rfl, rfl, rfl, Nat.le_refl _, fun _ _ _ => rfl⟩
theorem Wr.below {ρ : Nat → Nat} {r : Nat} {w w' : World} (h : Below w.heap.size w w') : Wr ρ r w w' := ⟨h.os, h.tape, h.output, h.size, fun k hk _ => h.block k hk⟩
theorem Wr.own {ρ : Nat → Nat} {r : Nat} {w w' : World} {v v' : Value} (hg : Grow w w' v v') (hr : ∀ k, v.ownBlock = some k → ρ k = r) (hl : ∀ k, v.ownBlock = some k → k < w.heap.size) : ∀ k, v'.ownBlock = some k → rx ρ w r k = r := fun k e => by
  rcases hg.alt with e1 | ⟨e1, _⟩
  · rw [e1] at e; rw [rx_old (hl k e)]; exact hr k e
  · exact rx_new (e1 k e)
end Go.Proofs.YtmpaliocfikifaaGreatDoor

namespace Go.Proofs.YtmpaliocfikifaaGreatDoor
open Go.RowKit Go.Shelf
namespace Bat
namespace In
/-- a list that reads as marks, one cell each -/
def MkV (w : World) (v u : Value) : Prop := ∃ a n c, v = .slice a n c ∧ n ≤ 9223372036854775807 ∧ ∀ j, j < n → ∃ g, a = some ⟨g, 0, none⟩ ∧ g < w.heap.size ∧ w.cell? ⟨g, j, none⟩ = some u
theorem MkV.kept {w w' : World} {v u : Value} (h : MkV w v u) (hs : w.heap.size ≤ w'.heap.size) (hb : ∀ k, v.ownBlock = some k → k < w.heap.size → w'.heap[k]? = w.heap[k]?) : MkV w' v u := by
  obtain ⟨a, n, c, rfl, h1, h2⟩ := h
  refine ⟨a, n, c, rfl, h1, fun j hj => ?_⟩
  obtain ⟨g, rfl, h3, h4⟩ := h2 j hj
  exact ⟨g, rfl, by omega, (World.cell?_of_block (a := ⟨g, j, none⟩) (hb g rfl h3)).trans h4⟩
theorem ownMkV {w : World} {v : Value} {n : Nat} {u : Value} (h : OwnM 1 w v n (List.replicate n u)) : MkV w v u := by
  obtain ⟨a, c, e, h1, h2⟩ := h.shape
  refine ⟨a, n, c, e, by omega, fun j hj => ?_⟩
  obtain ⟨g, c', e1, h3, h4⟩ := h.cell (show (List.replicate n u)[j]? = some u by rw [List.getElem?_replicate, if_pos hj])
  rw [e1] at e
  injection e with e3
  exact ⟨g, e3.symm, h4, h3⟩
/-- whose the t-th list is: forty of each -/
def whs (n : Nat) : List Value := (List.range n).map fun t => .int .i64 ((t / 20 : Nat) : Int)
theorem whs_len (n : Nat) : (whs n).length = n := by simp [whs]
theorem whs_succ (n : Nat) : whs (n + 1) = whs n ++ [.int .i64 ((n / 20 : Nat) : Int)] := by simp [whs, List.range_succ]
theorem whs_at {n t : Nat} (h : t < n) : (whs n)[t]? = some (.int .i64 ((t / 20 : Nat) : Int)) := by simp [whs, h]
/-- lists that came out (vs, kept in the row gl), while they are written over and grown: roles 0 never written, 1 the list of all, 2 whose, 3 + j the j-th list -/
structure Ow (S0 : Nat → Prop) (w0 : World) (gl : Nat) (vs : List Value) (mk : Nat → Value) (p : Nat) (cs : Nat → List Value) (ρ : Nat → Nat) (w : World) (va : Value) (ls : List Value) (vw : Value) (lw : Nat) : Prop where
  kp : Keep S0 w0 w
  lo : ∀ k, k < w0.heap.size → ¬ S0 k → ρ k = 0
  gr : w.rangeAt gl 0 vs
  rg : ρ gl = 0
  lg : gl < w.heap.size
  own : ∀ (j : Nat) (v : Value), p ≤ j → vs[j]? = some v → OwnM 1 w v (cs j).length (cs j) ∧ ∀ k, v.ownBlock = some k → ρ k = 3 + j
  oa : OwnM 1 w va ls.length ls
  ra : ∀ k, va.ownBlock = some k → ρ k = 1
  ow : OwnM 1 w vw lw (whs lw)
  rw_ : ∀ k, vw.ownBlock = some k → ρ k = 2
  mrk : ∀ (t : Nat) (v : Value), ls[t]? = some v → MkV w v (mk (t / 20)) ∧ ∀ k, v.ownBlock = some k → k < w.heap.size ∧ ρ k = 3 + t / 20
section
variable {S0 : Nat → Prop} {w0 w w' : World} {gl : Nat} {vs : List Value} {mk : Nat → Value} {p : Nat} {cs : Nat → List Value} {ρ : Nat → Nat} {va vw va' vw' : Value} {ls : List Value} {lw r : Nat}
theorem keep_wr (hk : Keep S0 w0 w) (lo : ∀ k, k < w0.heap.size → ¬ S0 k → ρ k = 0) (hw : Wr ρ r w w') (h0 : r ≠ 0) : Keep S0 w0 w' :=
  ⟨hw.os.trans hk.os, hw.tape.trans hk.tape, hw.output.trans hk.output, Nat.le_trans hk.size hw.size, fun k h1 h2 => (hw.block k (Nat.lt_of_lt_of_le h1 hk.size) (by rw [lo k h1 h2]; exact fun e => h0 e.symm)).trans (hk.block k h1 h2)⟩
theorem Ow.below (h : Ow S0 w0 gl vs mk p cs ρ w va ls vw lw) (hb : Below w.heap.size w w') : Ow S0 w0 gl vs mk p cs (rx ρ w 0) w' va ls vw lw where
  kp := keep_wr (r := 1) h.kp h.lo (Wr.below hb) (by omega)
  lo := fun k h1 h2 => by rw [rx_old (Nat.lt_of_lt_of_le h1 h.kp.size)]; exact h.lo k h1 h2
  gr := rangeAt_heap h.gr (hb.block gl h.lg)
  rg := by rw [rx_old h.lg]; exact h.rg
  lg := Nat.lt_of_lt_of_le h.lg hb.size
  own := fun j v hj e => by
    obtain ⟨a, b⟩ := h.own j v hj e
    exact ⟨a.below hb, fun k hk => by rw [rx_old (a.lt k hk)]; exact b k hk⟩
  oa := h.oa.below hb
  ra := fun k hk => by rw [rx_old (h.oa.lt k hk)]; exact h.ra k hk
  ow := h.ow.below hb
  rw_ := fun k hk => by rw [rx_old (h.ow.lt k hk)]; exact h.rw_ k hk
  mrk := fun t v e => by
    obtain ⟨a, b⟩ := h.mrk t v e
    exact ⟨a.kept hb.size (fun k _ hl => hb.block k hl), fun k hk => ⟨Nat.lt_of_lt_of_le (b k hk).1 hb.size, by rw [rx_old (b k hk).1]; exact (b k hk).2⟩⟩
/-- one cell of the i-th list is written, while none is gathered yet -/
theorem Ow.set {i g n c k : Nat} (h : Ow S0 w0 gl vs mk p cs ρ w va [] vw lw) (hp : p ≤ i) (e : vs[i]? = some (.slice (some ⟨g, 0, none⟩) n c)) (hk : k < (cs i).length) (u : Value) :
    Ow S0 w0 gl vs mk p (fun j => if j = i then (cs i).set k u else cs j) ρ (w.setCell ⟨g, k, none⟩ u) va [] vw lw ∧ (∃ y, w.cell? ⟨g, k, none⟩ = some y) ∧ w.frozen? ⟨g, k, none⟩ = false := by
  obtain ⟨a, b⟩ := h.own i _ hp e
  have hn : (cs i).length = n := by
    obtain ⟨a1, c1, e1, _, _⟩ := a.shape
    injection e1 with _ e2 _
    exact e2.symm
  rw [hn] at a
  obtain ⟨o1, o2, o3⟩ := a.set hk u
  have rg := b g rfl
  have hw : Wr ρ (3 + i) w (w.setCell ⟨g, k, none⟩ u) := (Wr.refl ρ (3 + i) w).setCell (fun _ => rg) _ _
  have hs : w.heap.size ≤ (w.setCell ⟨g, k, none⟩ u).heap.size := hw.size
  refine ⟨?_, o2, o3⟩
  constructor
  case kp => exact keep_wr h.kp h.lo hw (by omega)
  case lo => exact h.lo
  case gr => exact rangeAt_heap h.gr (hw.block gl h.lg (by rw [h.rg]; omega))
  case rg => exact h.rg
  case lg => exact Nat.lt_of_lt_of_le h.lg hs
  case own =>
    intro j v hj ej
    by_cases hji : j = i
    · subst hji
      obtain rfl : Value.slice (some ⟨g, 0, none⟩) n c = v := Option.some.inj (e.symm.trans ej)
      rw [if_pos rfl, List.length_set, hn]
      exact ⟨o1, b⟩
    · rw [if_neg hji]
      obtain ⟨a', b'⟩ := h.own j v hj ej
      exact ⟨a'.kept hs (fun g' hg' => hw.block g' (a'.lt g' hg') (by rw [b' g' hg']; omega)), b'⟩
  case oa => exact h.oa.kept hs (fun g' hg' => hw.block g' (h.oa.lt g' hg') (by rw [h.ra g' hg']; omega))
  case ra => exact h.ra
  case ow => exact h.ow.kept hs (fun g' hg' => hw.block g' (h.ow.lt g' hg') (by rw [h.rw_ g' hg']; omega))
  case rw_ => exact h.rw_
  case mrk => exact fun t v e => by cases e
/-- a list is put to all -/
theorem Ow.pushA {x : Value} (h : Ow S0 w0 gl vs mk p cs ρ w va ls vw lw) (hg : Grow w w' va va') (ho : OwnM 1 w' va' (ls.length + 1) (ls ++ [x])) (hx : MkV w x (mk (ls.length / 20))) (hr : ∀ k, x.ownBlock = some k → k < w.heap.size ∧ ρ k = 3 + ls.length / 20) :
    Ow S0 w0 gl vs mk p cs (rx ρ w 1) w' va' (ls ++ [x]) vw lw := by
  have hw : Wr ρ 1 w w' := Wr.grow hg h.ra
  have hs := hw.size
  constructor
  case kp => exact keep_wr h.kp h.lo hw (by omega)
  case lo => exact fun k h1 h2 => by rw [rx_old (Nat.lt_of_lt_of_le h1 h.kp.size)]; exact h.lo k h1 h2
  case gr => exact rangeAt_heap h.gr (hw.block gl h.lg (by rw [h.rg]; omega))
  case rg => rw [rx_old h.lg]; exact h.rg
  case lg => exact Nat.lt_of_lt_of_le h.lg hs
  case own =>
    intro j v hj ej
    obtain ⟨a', b'⟩ := h.own j v hj ej
    exact ⟨a'.kept hs (fun g' hg' => hw.block g' (a'.lt g' hg') (by rw [b' g' hg']; omega)), fun k hk => by rw [rx_old (a'.lt k hk)]; exact b' k hk⟩
  case oa => rw [List.length_append]; exact ho
  case ra => exact Wr.own hg h.ra h.oa.lt
  case ow => exact h.ow.kept hs (fun g' hg' => hw.block g' (h.ow.lt g' hg') (by rw [h.rw_ g' hg']; omega))
  case rw_ => exact fun k hk => by rw [rx_old (h.ow.lt k hk)]; exact h.rw_ k hk
  case mrk =>
    intro t v e
    rw [List.getElem?_append] at e
    split at e
    · obtain ⟨a, b⟩ := h.mrk t v e
      exact ⟨a.kept hs (fun k hk hl => hw.block k hl (by rw [(b k hk).2]; omega)), fun k hk => ⟨Nat.lt_of_lt_of_le (b k hk).1 hs, by rw [rx_old (b k hk).1]; exact (b k hk).2⟩⟩
    · next hj =>
      have ht := (List.getElem?_eq_some_iff.1 e).1
      simp at ht
      obtain rfl : t = ls.length := by omega
      rw [Nat.sub_self] at e
      obtain rfl : x = v := Option.some.inj e
      exact ⟨hx.kept hs (fun k hk hl => hw.block k hl (by rw [(hr k hk).2]; omega)), fun k hk => ⟨Nat.lt_of_lt_of_le (hr k hk).1 hs, by rw [rx_old (hr k hk).1]; exact (hr k hk).2⟩⟩
/-- a number is put to whose -/
theorem Ow.pushW (h : Ow S0 w0 gl vs mk p cs ρ w va ls vw lw) (hg : Grow w w' vw vw') (ho : OwnM 1 w' vw' (lw + 1) (whs (lw + 1))) :
    Ow S0 w0 gl vs mk p cs (rx ρ w 2) w' va ls vw' (lw + 1) := by
  have hw : Wr ρ 2 w w' := Wr.grow hg h.rw_
  have hs := hw.size
  constructor
  case kp => exact keep_wr h.kp h.lo hw (by omega)
  case lo => exact fun k h1 h2 => by rw [rx_old (Nat.lt_of_lt_of_le h1 h.kp.size)]; exact h.lo k h1 h2
  case gr => exact rangeAt_heap h.gr (hw.block gl h.lg (by rw [h.rg]; omega))
  case rg => rw [rx_old h.lg]; exact h.rg
  case lg => exact Nat.lt_of_lt_of_le h.lg hs
  case own =>
    intro j v hj ej
    obtain ⟨a', b'⟩ := h.own j v hj ej
    exact ⟨a'.kept hs (fun g' hg' => hw.block g' (a'.lt g' hg') (by rw [b' g' hg']; omega)), fun k hk => by rw [rx_old (a'.lt k hk)]; exact b' k hk⟩
  case oa => exact h.oa.kept hs (fun g' hg' => hw.block g' (h.oa.lt g' hg') (by rw [h.ra g' hg']; omega))
  case ra => exact fun k hk => by rw [rx_old (h.oa.lt k hk)]; exact h.ra k hk
  case ow => exact ho
  case rw_ => exact Wr.own hg h.rw_ h.ow.lt
  case mrk =>
    intro t v e
    obtain ⟨a, b⟩ := h.mrk t v e
    exact ⟨a.kept hs (fun k hk hl => hw.block k hl (by rw [(b k hk).2]; omega)), fun k hk => ⟨Nat.lt_of_lt_of_le (b k hk).1 hs, by rw [rx_old (b k hk).1]; exact (b k hk).2⟩⟩
/-- the i-th list is being grown: it has n marks now, q of its beginnings are in all -/
structure Ox (S0 : Nat → Prop) (w0 : World) (gl : Nat) (vs : List Value) (mk : Nat → Value) (i q n : Nat) (cs : Nat → List Value) (ρ : Nat → Nat) (w : World) (va : Value) (ls : List Value) (vw : Value) (lw : Nat) (x : Value) : Prop where
  b : Ow S0 w0 gl vs mk (i + 1) cs ρ w va ls vw lw
  ox : OwnM 1 w x n (List.replicate n (mk i))
  rx_ : ∀ k, x.ownBlock = some k → ρ k = 3 + i
  ll : ls.length = 20 * i + q
  sn : ∀ (t : Nat) (u : Value), ls[t]? = some u → t / 20 = i → ∃ a m c, u = .slice a m c ∧ m ≤ n
theorem Ow.take {i : Nat} {v : Value} (h : Ow S0 w0 gl vs mk i cs ρ w va ls vw lw) (e : vs[i]? = some v) (hc : cs i = List.replicate (cs i).length (mk i)) (hl : ls.length = 20 * i) : Ox S0 w0 gl vs mk i 0 (cs i).length cs ρ w va ls vw lw v where
  b := { h with own := fun j v hj e => h.own j v (by omega) e }
  ox := by have := (h.own i v (Nat.le_refl _) e).1; rwa [hc, List.length_replicate] at this
  rx_ := (h.own i v (Nat.le_refl _) e).2
  ll := hl
  sn := fun t u et hr => by
    have := (List.getElem?_eq_some_iff.1 et).1
    rw [hl] at this
    omega
theorem Ox.below {i q n : Nat} {x : Value} (h : Ox S0 w0 gl vs mk i q n cs ρ w va ls vw lw x) (hb : Below w.heap.size w w') : Ox S0 w0 gl vs mk i q n cs (rx ρ w 0) w' va ls vw lw x where
  b := h.b.below hb
  ox := h.ox.below hb
  rx_ := fun k hk => by rw [rx_old (h.ox.lt k hk)]; exact h.rx_ k hk
  ll := h.ll
  sn := h.sn
theorem Ox.pushA {i q n : Nat} {x : Value} (h : Ox S0 w0 gl vs mk i q n cs ρ w va ls vw lw x) (hq : q < 20) (hg : Grow w w' va va') (ho : OwnM 1 w' va' (ls.length + 1) (ls ++ [x])) : Ox S0 w0 gl vs mk i (q + 1) n cs (rx ρ w 1) w' va' (ls ++ [x]) vw lw x := by
  have hd : ls.length / 20 = i := by rw [h.ll]; omega
  have hw : Wr ρ 1 w w' := Wr.grow hg h.b.ra
  constructor
  case b => exact h.b.pushA hg ho (by rw [hd]; exact (ownMkV h.ox)) (fun k hk => ⟨h.ox.lt k hk, by rw [hd]; exact h.rx_ k hk⟩)
  case ox => exact h.ox.kept hw.size (fun g hg' => hw.block g (h.ox.lt g hg') (by rw [h.rx_ g hg']; omega))
  case rx_ => exact fun k hk => by rw [rx_old (h.ox.lt k hk)]; exact h.rx_ k hk
  case ll => rw [List.length_append, h.ll]; rfl
  case sn =>
    intro t u e hr
    rw [List.getElem?_append] at e
    split at e
    · exact h.sn t u e hr
    · obtain ⟨a, c, e1, _, _⟩ := h.ox.shape
      have ht := (List.getElem?_eq_some_iff.1 e).1
      simp at ht
      rw [show t - ls.length = 0 by omega] at e
      obtain rfl : x = u := Option.some.inj e
      exact ⟨a, n, c, e1, Nat.le_refl _⟩
theorem Ox.pushW {i q n : Nat} {x : Value} (h : Ox S0 w0 gl vs mk i q n cs ρ w va ls vw lw x) (hg : Grow w w' vw vw') (ho : OwnM 1 w' vw' (lw + 1) (whs (lw + 1))) : Ox S0 w0 gl vs mk i q n cs (rx ρ w 2) w' va ls vw' (lw + 1) x := by
  have hw : Wr ρ 2 w w' := Wr.grow hg h.b.rw_
  constructor
  case b => exact h.b.pushW hg ho
  case ox => exact h.ox.kept hw.size (fun g hg' => hw.block g (h.ox.lt g hg') (by rw [h.rx_ g hg']; omega))
  case rx_ => exact fun k hk => by rw [rx_old (h.ox.lt k hk)]; exact h.rx_ k hk
  case ll => exact h.ll
  case sn => exact h.sn
theorem Ox.grow {i q n : Nat} {x x' : Value} (h : Ox S0 w0 gl vs mk i q n cs ρ w va ls vw lw x) (hg : Grow w w' x x') (ho : OwnM 1 w' x' (n + 1) (List.replicate (n + 1) (mk i))) : Ox S0 w0 gl vs mk i q (n + 1) cs (rx ρ w (3 + i)) w' va ls vw lw x' := by
  have hw : Wr ρ (3 + i) w w' := Wr.grow hg h.rx_
  have hs := hw.size
  constructor
  case b =>
    constructor
    case kp => exact keep_wr h.b.kp h.b.lo hw (by omega)
    case lo => exact fun k h1 h2 => by rw [rx_old (Nat.lt_of_lt_of_le h1 h.b.kp.size)]; exact h.b.lo k h1 h2
    case gr => exact rangeAt_heap h.b.gr (hw.block gl h.b.lg (by rw [h.b.rg]; omega))
    case rg => rw [rx_old h.b.lg]; exact h.b.rg
    case lg => exact Nat.lt_of_lt_of_le h.b.lg hs
    case own =>
      intro j v hj ej
      obtain ⟨a', b'⟩ := h.b.own j v hj ej
      exact ⟨a'.kept hs (fun g' hg' => hw.block g' (a'.lt g' hg') (by rw [b' g' hg']; omega)), fun k hk => by rw [rx_old (a'.lt k hk)]; exact b' k hk⟩
    case oa => exact h.b.oa.kept hs (fun g' hg' => hw.block g' (h.b.oa.lt g' hg') (by rw [h.b.ra g' hg']; omega))
    case ra => exact fun k hk => by rw [rx_old (h.b.oa.lt k hk)]; exact h.b.ra k hk
    case ow => exact h.b.ow.kept hs (fun g' hg' => hw.block g' (h.b.ow.lt g' hg') (by rw [h.b.rw_ g' hg']; omega))
    case rw_ => exact fun k hk => by rw [rx_old (h.b.ow.lt k hk)]; exact h.b.rw_ k hk
    case mrk =>
      intro t u e
      obtain ⟨hM, b⟩ := h.b.mrk t u e
      refine ⟨?_, fun k hk => ⟨Nat.lt_of_lt_of_le (b k hk).1 hs, by rw [rx_old (b k hk).1]; exact (b k hk).2⟩⟩
      by_cases ht : t / 20 = i
      · obtain ⟨a0, m0, c0, e0, hm0⟩ := h.sn t u e ht
        obtain ⟨a, m, c, e1, hm, hc⟩ := hM
        rw [e0] at e1
        injection e1 with e1 e2 e3
        subst e1 e2 e3
        refine ⟨a0, m0, c0, e0, hm, fun j hj => ?_⟩
        obtain ⟨g, ea, h3, h4⟩ := hc j hj
        have keep : w'.heap[g]? = w.heap[g]? → ∃ g', a0 = some ⟨g', 0, none⟩ ∧ g' < w'.heap.size ∧ w'.cell? ⟨g', j, none⟩ = some (mk (t / 20)) := fun e' =>
          ⟨g, ea, Nat.lt_of_lt_of_le h3 hs, (World.cell?_of_block (a := ⟨g, j, none⟩) e').trans h4⟩
        by_cases hv : x.ownBlock = some g
        · rcases hg.alt with e4 | ⟨_, e4⟩
          · obtain ⟨g1, c1, f1, f2, f3⟩ := ho.cell (show (List.replicate (n + 1) (mk i))[j]? = some (mk i) by rw [List.getElem?_replicate, if_pos (by omega)])
            rw [hv] at e4
            have hg1 : g1 = g := by rw [f1] at e4; injection e4
            subst hg1
            rw [ht]
            exact ⟨_, ea, f3, f2⟩
          · exact keep (e4 g h3)
        · exact keep (hg.old g h3 hv)
      · exact hM.kept hs (fun k hk hl => hw.block k hl (by rw [(b k hk).2]; omega))
  case ox => exact ho
  case rx_ => exact Wr.own hg h.rx_ h.ox.lt
  case ll => exact h.ll
  case sn =>
    intro t u e hr
    obtain ⟨a, m, c, e1, e2⟩ := h.sn t u e hr
    exact ⟨a, m, c, e1, by omega⟩
end
end In
end Bat
end Go.Proofs.YtmpaliocfikifaaGreatDoor
