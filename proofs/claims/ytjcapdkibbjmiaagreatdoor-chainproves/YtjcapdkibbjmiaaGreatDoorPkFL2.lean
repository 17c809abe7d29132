import Derived.Test.YtjcapdkibbjmiaaGreatDoorPkCG2
import Derived.Test.YtjcapdkibbjmiaaGreatDoorPkO3
import Derived.Test.YtjcapdkibbjmiaaGreatDoorPkTL12
import Derived.Test.YtjcapdkibbjmiaaGreatDoorPkSP28
import Derived.Test.YtjcapdkibbjmiaaGreatDoorPkCL2
import Derived.Test.YtjcapdkibbjmiaaGreatDoorPkCP4
namespace Go.Proofs.YtjcapdkibbjmiaaGreatDoor
open Go.RowKit
end Go.Proofs.YtjcapdkibbjmiaaGreatDoor

namespace Go.Proofs.YtjcapdkibbjmiaaGreatDoor
open Go.RowKit
theorem append_S (w : World) (B : Nat) (v : Value) (H : List (List UInt8)) (x : List UInt8) (hown : Own w B v (svs H)) (hlen : H.length ≤ 2000000) (hB : B ≤ w.heap.size) :
    ∃ v' w', (Builtin.append_ #[22, 22] 22 #[v, .slice (some ⟨w.heap.size, 0, none⟩) 1 1]).run Tryz.prog (w.alloc (.cells #[.string ⟨x.toArray⟩] 9)) = .ok v' w' ∧ Own w' B v' (svs (H ++ [x])) ∧ Grow w w' v v' := by
  have h := append_one 22 9 (.string ⟨#[]⟩) 16 (by omega) undSlS infoS rfl w B v (svs H) (sv x) rfl hown (by rw [svs_length]; exact hlen) hB
  rw [show svs H ++ [sv x] = svs (H ++ [x]) by simp [svs]] at h
  exact h
end Go.Proofs.YtjcapdkibbjmiaaGreatDoor

namespace Go.Proofs.YtjcapdkibbjmiaaGreatDoor
open Go.RowKit
def Rb (q : Nat) (v : Value) (k : Nat) : Prop := k = q ∨ v.ownBlock = some k
structure RtL (w : World) (q h : Nat) (L : List (List UInt8)) (F : Nat → Prop) : Prop where
  ex : ∃ v, w.heap[q]? = some (.cells #[.int .i64 (h : Int), v] 77 (0, 0)) ∧ Own w 0 v (svs L) ∧ v.ownBlock ≠ some q ∧ F = Rb q v
  hs : Tree.Hs L
  h1 : 1 ≤ h
  h8 : h ≤ 8
  low : ∀ k, F k → 4 ≤ k
  n20 : L.length ≤ 1048576
theorem RtL.lt {w : World} {q h : Nat} {L : List (List UInt8)} {F : Nat → Prop} (t : RtL w q h L F) : ∀ k, F k → k < w.heap.size := by
  obtain ⟨⟨v, r1, o1, _, rfl⟩, _, _, _, _, _⟩ := t
  rintro k (rfl | hk)
  · exact lt_of_heap r1
  · exact o1.ltS k hk
theorem RtL.keep {w w' : World} {q h : Nat} {L : List (List UInt8)} {F S : Nat → Prop} (t : RtL w q h L F) (hk : Keep S w w') (hd : ∀ k, F k → ¬ S k) : RtL w' q h L F := by
  have hlt := t.lt
  obtain ⟨⟨v, r1, o1, n1, rfl⟩, h2, h3, h4, h5, h6⟩ := t
  exact ⟨⟨v, (hk.block q (lt_of_heap r1) (hd q (.inl rfl))).trans r1, o1.keep hk fun k e => hd k (.inr e), n1, rfl⟩, h2, h3, h4, h5, h6⟩
theorem RtL.below {w w' : World} {q h : Nat} {L : List (List UInt8)} {F : Nat → Prop} (t : RtL w q h L F) (hb : Below w.heap.size w w') : RtL w' q h L F :=
  t.keep (Keep.ofBelow (S := fun _ => False) hb) fun _ _ e => e
theorem RtL.mov {w w' : World} {q h : Nat} {L : List (List UInt8)} {F G G' : Nat → Prop} (t : RtL w q h L F) (hm : Mov G w w' G') (hd : ∀ k, F k → ¬ G k) : RtL w' q h L F ∧ ∀ k, F k → ¬ G' k :=
  ⟨t.keep hm.keep hd, fun k hk e => by
    rcases hm.new k e with e | e
    · exact hd k hk e
    · have := t.lt k hk; omega⟩
theorem RtL.open {w : World} {q h : Nat} {L : List (List UInt8)} {F : Nat → Prop} (t : RtL w q h L F) : ∃ a c, w.heap[q]? = some (.cells #[.int .i64 (h : Int), .slice a L.length c] 77 (0, 0)) ∧ Own w 0 (.slice a L.length c) (svs L) ∧ (Value.slice a L.length c).ownBlock ≠ some q ∧ F = Rb q (.slice a L.length c) ∧ At w a L ∧ L.length ≤ c ∧ c ≤ 9223372036854775807 := by
  obtain ⟨⟨v, r1, o1, n1, rfl⟩, _, _, _, _, _⟩ := t
  obtain ⟨a, c, rfl, hA, h1, h2⟩ := o1.at
  exact ⟨a, c, r1, o1, n1, rfl, hA, h1, h2⟩
set_option maxRecDepth 100000 in
theorem rSizeL {w : World} {q h : Nat} {L : List (List UInt8)} {F : Nat → Prop} (t : RtL w q h L F) : Calls Tryz.prog 46 #[.pointer (some ⟨q, 0, none⟩)] w fun r w' => r = .returned (.int .i64 (L.length : Int)) ∧ w' = w := by
  obtain ⟨a, c, r1, _, _, _, _, _, _⟩ := t.open
  have c1 : w.cell? ⟨q, 1, none⟩ = some (.slice a L.length c) := by rw [cell_of_row _ _ _ _ _ _ r1]; rfl
  clear r1 t
  generalize L.length = n at *
  go_enter Tryz.func46, Tryz.ntmps46
  go_wp2
  go_ret
  exact ⟨rfl, rfl⟩
set_option maxRecDepth 100000 in
theorem rNew_any (h : Nat) (h1 : 1 ≤ h) (h8 : h ≤ 8) (w : World) (hT : 4 ≤ w.heap.size) : Calls Tryz.prog 25 #[.int .i64 (h : Int)] w fun r w' => ∃ q F, r = .returned (.tuple #[.pointer (some ⟨q, 0, none⟩), .int .i64 0]) ∧ RtL w' q h [] F ∧ (∀ k, F k → w.heap.size ≤ k) ∧ Below w.heap.size w w' := by
  have c0 : ¬ (h : Int) < 1 := by omega
  have c1 : ¬ (h : Int) > 8 := by omega
  have c2 : ¬ 8 < (h : Int) := by omega
  go_enter Tryz.func25, Tryz.ntmps25
  go_wp2
  go_ret2
  have b1 := (Below.refl w.heap.size w).alloc (Nat.le_refl _) (.cells #[Value.int .i64 (h : Int), .slice none 0 0] 77)
  have r1 := heap_alloc_new w (.cells #[Value.int .i64 (h : Int), .slice none 0 0] 77)
  have hF : ∀ k, Rb w.heap.size (.slice none 0 0) k → w.heap.size ≤ k := fun k hk => by
    rcases hk with hk | hk
    · omega
    · cases hk
  exact ⟨w.heap.size, rfl, _, ⟨⟨_, r1, Own.nil _ _, (fun e => by cases e), rfl⟩, fun x hx => (by cases hx), h1, h8, fun k hk => Nat.le_trans hT (hF k hk), by simp⟩, hF, b1⟩
set_option maxRecDepth 100000 in
set_option maxHeartbeats 1000000 in
theorem rAdd_any {w : World} {q h : Nat} {L : List (List UInt8)} {F : Nat → Prop} (t : RtL w q h L F) (x : List UInt8) (hx : x.length = 32) (hn : L.length < 1048576) (hT : 4 ≤ w.heap.size) : Calls Tryz.prog 13 #[.pointer (some ⟨q, 0, none⟩), sv x] w fun r w' => r = .returned (.int .i64 0) ∧ ∃ F', RtL w' q h (L ++ [x]) F' ∧ Mov F w w' F' := by
  have hs := sv_size x
  have c0 : (((ByteArray.mk x.toArray).size : Int) != 32) = false := by rw [hs, hx]; rfl
  have hsx : Tree.Hs (L ++ [x]) := fun y hy => by
    rcases List.mem_append.1 hy with hy | hy
    · exact t.hs y hy
    · rw [List.mem_singleton.1 hy]; exact hx
  obtain ⟨a, c, r1, o1, n1, rfl, _, _, _⟩ := t.open
  obtain ⟨_, _, g1, g8, glow, _⟩ := t
  have c1 : w.cell? ⟨q, 1, none⟩ = some (.slice a L.length c) := by rw [cell_of_row _ _ _ _ _ _ r1]; rfl
  obtain ⟨v', w', hap, o2, gr⟩ := append_S w 0 _ L x o1 (by omega) (Nat.zero_le _)
  have hq := lt_of_heap r1
  have r2 := (gr.old q hq n1).trans r1
  have f2 : w'.frozen? ⟨q, 1, none⟩ = false := frozen_of_row _ _ _ _ _ r2
  have c2' : w'.cell? ⟨q, 1, none⟩ = some (.slice a L.length c) := by rw [cell_of_row _ _ _ _ _ _ r2]; rfl
  have fin : Hid (∃ F', RtL (w'.setCell ⟨q, 1, none⟩ v') q h (L ++ [x]) F' ∧ Mov (Rb q (.slice a L.length c)) w (w'.setCell ⟨q, 1, none⟩ v') F') := by
    have hnew : ∀ k, v'.ownBlock = some k → (Value.slice a L.length c).ownBlock = some k ∨ w.heap.size ≤ k := fun k hk => by
      rcases gr.alt with e | ⟨e, _⟩
      · left; rw [← e]; exact hk
      · right; exact e k hk
    have hne : v'.ownBlock ≠ some q := fun e => by
      rcases hnew q e with e' | e'
      · exact n1 e'
      · omega
    have hm : Mov (Rb q (.slice a L.length c)) w (w'.setCell ⟨q, 1, none⟩ v') (Rb q v') := by
      refine ⟨(gr.keep.mono fun _ _ e => .inr e).trans (Keep.ofSet (S := fun k => k = q) w' q 1 v' rfl) fun _ _ e => .inl e, fun k hk => ?_⟩
      rcases hk with e | e
      · exact .inl (.inl e)
      · rcases hnew k e with e | e
        · exact .inl (.inr e)
        · exact .inr e
    refine ⟨Rb q v', ⟨⟨v', heap_setCell_same w' q 1 _ _ _ r2, o2.keep (Keep.ofSet (S := fun k => k = q) w' q 1 v' rfl) (fun k hk e => hne (e ▸ hk)), hne, rfl⟩, hsx, g1, g8, fun k hk => ?_, ?_⟩, hm⟩
    · rcases hm.new k hk with e | e
      · exact glow k e
      · omega
    · rw [List.length_append]; simp; omega
  obtain ⟨a', c', hv⟩ := o2.shape
  clear r1 r2 o1 o2 gr glow hsx hs n1
  subst hv
  generalize (svs (L ++ [x])).length = n' at *
  generalize L.length = n at *
  have c3 : ¬ (n : Int) ≥ 1048576 := by omega
  rw [show sv x = Value.string ⟨x.toArray⟩ from rfl]
  go_enter Tryz.func13, Tryz.ntmps13
  go_wp2_with (at_builtin; go_must (refine Lib.wpList_append_run _ rfl _ _ 22 22 rfl _ _ rfl rfl _ _ hap ?_); clear hap)
  go_ret
  exact ⟨rfl, fin.out⟩
end Go.Proofs.YtjcapdkibbjmiaaGreatDoor

namespace Go.Proofs.YtjcapdkibbjmiaaGreatDoor
open Go.RowKit Go.Shelf
namespace Chn
theorem conv_oneC (n : Nat) (hn : n ≤ 255) (w : World) : (convert 40 9 (.slice (some ⟨w.heap.size, 0, none⟩) 1 1)).run Tryz.prog (w.alloc (.cells #[.int .u8 (n : Int)] 5)) = .ok (.string ⟨#[UInt8.ofNat n]⟩) (w.alloc (.cells #[.int .u8 (n : Int)] 5)) := by
  refine run_conv_bytes (P := Tryz.prog) _ 40 9 5 w.heap.size 0 1 1 [UInt8.ofNat n] rfl Tryz.underlying40 Tryz.underlying5 Tryz.underlying9 ?_
  intro j v hv
  have hX := heap_alloc_new w (.cells #[.int .u8 (n : Int)] 5)
  match j, hv with
  | 0, hv =>
    have e : v = .int .u8 (n : Int) := by
      simp [bv] at hv
      rw [← hv]; congr 1; omega
    rw [e, cell_of_row _ _ _ _ _ _ hX]; rfl
  | j + 1, hv => simp [bv] at hv
structure Tt (w w' : World) (q q' h : Nat) (L : List (List UInt8)) (F F' : Nat → Prop) : Prop where
  t : TrL w' q h L F
  r : RtL w' q' h L F'
  g : ∀ k, F k → w.heap.size ≤ k
  g' : ∀ k, F' k → w.heap.size ≤ k
  off : ∀ k, F k → ¬ F' k
  bel : Below w.heap.size w w'
theorem Tt.below {w w' w2 : World} {q q' h : Nat} {L : List (List UInt8)} {F F' : Nat → Prop} (t : Tt w w' q q' h L F F') (hb : Below w'.heap.size w' w2) : Tt w w2 q q' h L F F' := ⟨t.t.below hb, t.r.below hb, t.g, t.g', t.off, t.bel.trans (hb.mono t.bel.size)⟩
theorem Tt.add {w w' w2 w3 : World} {q q' h : Nat} {L L' : List (List UInt8)} {F F' G G' : Nat → Prop} (t : Tt w w' q q' h L F F') (t2 : TrL w2 q h L' G) (m2 : Mov F w' w2 G) (r3 : RtL w3 q' h L' G') (m3 : Mov F' w2 w3 G') : Tt w w3 q q' h L' G G' := by
  obtain ⟨b2, g2⟩ := m2.below (B := w.heap.size) t.bel.size t.g
  obtain ⟨b3, g3⟩ := m3.below (B := w.heap.size) (Nat.le_trans t.bel.size b2.size) t.g'
  have r2 := t.r.mov m2 (fun k f e => t.off k e f)
  have o2 : ∀ k, G k → ¬ F' k := fun k g f => r2.2 k f g
  have t3 := t2.mov m3 o2
  exact ⟨t3.1, r3, g2, g3, t3.2, (t.bel.trans b2).trans b3⟩
set_option maxRecDepth 100000 in
set_option maxHeartbeats 2000000 in
theorem trees13_any (ht : Int) (E : List (List UInt8)) (n N : Nat) (hN : Hid (E.length = N)) (hn : n ≤ 200) (a : Option Addr) (cap : Nat) (w : World) (h1 : -9223372036854775808 ≤ ht) (h2 : ht ≤ 9223372036854775807) (hA : At w a E) (hE : ∀ x ∈ E, x.length ≤ 140737488355000) (Z : Tb w) :
    Calls Tryz.prog 7 #[.int .i64 ht, .slice a N cap, .int .i64 (n : Int)] w fun r w' => ∃ q q' h L F F', r = .returned (.tuple #[.pointer (some ⟨q, 0, none⟩), .pointer (some ⟨q', 0, none⟩)]) ∧ L.length = n ∧ Tt w w' q q' h L F F' := by
  have HZ := hid Z
  have HA := hid hA
  have HE := hid hE
  have hT := Z.lt
  have p0 := pk_nonneg ht 8 (by omega)
  have p1 := pk_lt ht 8 (by omega)
  have i1 := pick_any ht 8 h1 h2 (by omega) (by omega) w
  obtain ⟨h, hh⟩ : ∃ h : Nat, (h : Int) = 1 + pk ht 8 := ⟨(1 + pk ht 8).toNat, by omega⟩
  have s1 : IntKind.i64.wrap (1 + pk ht 8) = (h : Int) := by rw [wrap_small _ (by omega) (by omega)]; omega
  have new := tNew_any h (by omega) (by omega) w hT
  have rnew := fun w' (b : Below w.heap.size w w') => rNew_any h (by omega) (by omega) w' (Nat.le_trans hT b.size)
  generalize pk ht 8 = p at *
  clear hh p0 p1 Z hA hE
  go_enter Tryz.func7, Tryz.ntmps7
  go_wp2_with (first
    | (go_at_call 6; refine i1.mono ?_; rintro e w0 ⟨rfl, h0⟩; have h0 := h0.symm; subst h0)
    | (go_at_call 24; refine new.mono ?_; rintro e w1 ⟨q, F1, rfl, E1, hF1, B1⟩; have E1 := hid E1; have B1 := hid B1; have hF1 := hid hF1)
    | (go_at_call 25; refine (rnew _ B1.out).mono ?_; rintro e w2 ⟨q', F2, rfl, E2, hF2, B2⟩; have T0 : Hid (Tt w w2 q q' h [] F1 F2) := ⟨E1.out.below B2, E2, hF1.out, (fun k f => Nat.le_trans B1.out.size (hF2 k f)), (fun k f f' => by { have := E1.out.lt k f; have := hF2 k f'; omega }), B1.out.trans (B2.mono B1.out.size)⟩; clear E2 hF2 B2))
  clear i1 s1 new rnew E1 hF1
  go_loopw [13, 14, 15, 16, 17] (fun i _ _ _ _ w' => ∃ (k : Nat) (L : List (List UInt8)) (F F' : Nat → Prop), k ≤ n ∧ i = .int .i64 (k : Int) ∧ Hid (L.length = k) ∧ Hid (Tt w w' q q' h L F F')) (fun i _ _ _ _ _ => n - (intOf i).toNat)
  case atStart => exact ⟨0, [], F1, F2, by omega, rfl, rfl, T0⟩
  case round =>
    clear T0
    obtain ⟨k, L, F, F', hk, rfl, hL, hTt⟩ := hrel
    by_cases hkn : k < n
    · have e0 : (k : Int) < (n : Int) := by omega
      have hcv := conv_oneC k (by omega) wr
      have bA := (Below.refl wr.heap.size wr).alloc (Nat.le_refl _) (.cells #[.int .u8 (k : Int)] 5)
      have TA := hid (hTt.out.below bA)
      have BA := hid TA.out.bel
      have e9 : k ≤ 255 := by omega
      by_cases hkN : k < N
      · have e1 : (k : Int) < (N : Int) := by omega
        have hkE : k < E.length := by rw [hN.out]; exact hkN
        obtain ⟨y, rfl, _, hy⟩ := (HA.out.below BA.out (Nat.le_refl _)) k E[k] (List.getElem?_eq_getElem hkE)
        have hs := HE.out E[k] (List.getElem_mem hkE)
        have i2 := fun w' => hash8_any ⟨E[k].toArray⟩ (by rw [sv_size]; exact hs) w'
        rw [show sv E[k] = .string ⟨E[k].toArray⟩ from rfl] at hy
        have l32 := Sha.sha_length (⟨E[k].toArray⟩ : ByteArray).data.toList
        generalize Sha.sha (⟨E[k].toArray⟩ : ByteArray).data.toList = R at *
        generalize (⟨E[k].toArray⟩ : ByteArray) = S at *
        have hLn : L.length < 1048576 := by rw [hL.out]; omega
        clear hTt bA
        go_wp2_with (first
          | (go_at_call 11; refine (i2 _).mono ?_; rintro r w3 ⟨rfl, b3⟩; have T3 := hid (TA.out.below b3); have ad := tAdd_any T3.out.t R l32 hLn (HZ.out.below T3.out.bel hT); clear b3)
          | (go_at_call 12; refine ad.mono ?_; rintro r w4 ⟨rfl, G, t4, m4⟩; have r4 := (T3.out.r.mov m4 (fun k f e => T3.out.off k e f)).1; have b4 := (m4.below (B := w.heap.size) T3.out.bel.size T3.out.g).1; have ra := rAdd_any r4 R l32 hLn (Nat.le_trans hT (Nat.le_trans T3.out.bel.size b4.size)); have T4 := hid t4; have M4 := hid m4; clear r4 b4 t4 m4)
          | (go_at_call 13; refine ra.mono ?_; rintro r w5 ⟨rfl, G', r5, m5⟩; have T5 := hid (T3.out.add T4.out M4.out r5 m5); clear r5 m5))
        exact ⟨⟨k + 1, L ++ [R], G, G', by omega, by go_num, by unfold Hid; rw [List.length_append, hL.out]; rfl, T5⟩, by simp [intOf]; omega⟩
      · have e1 : ¬ (k : Int) < (N : Int) := by omega
        have i2 := fun w' => hash8_any (⟨#[110, 111, 110, 101]⟩ ++ ⟨#[UInt8.ofNat k]⟩) (by simp [ByteArray.size]) w'
        have l32 := Sha.sha_length ((⟨#[110, 111, 110, 101]⟩ : ByteArray) ++ ⟨#[UInt8.ofNat k]⟩).data.toList
        generalize Sha.sha ((⟨#[110, 111, 110, 101]⟩ : ByteArray) ++ ⟨#[UInt8.ofNat k]⟩).data.toList = R at *
        have hLn : L.length < 1048576 := by rw [hL.out]; omega
        clear hTt bA
        go_wp2_with (first
          | (go_at_call 11; refine (i2 _).mono ?_; rintro r w3 ⟨rfl, b3⟩; have T3 := hid (TA.out.below b3); have ad := tAdd_any T3.out.t R l32 hLn (HZ.out.below T3.out.bel hT); clear b3)
          | (go_at_call 12; refine ad.mono ?_; rintro r w4 ⟨rfl, G, t4, m4⟩; have r4 := (T3.out.r.mov m4 (fun k f e => T3.out.off k e f)).1; have b4 := (m4.below (B := w.heap.size) T3.out.bel.size T3.out.g).1; have ra := rAdd_any r4 R l32 hLn (Nat.le_trans hT (Nat.le_trans T3.out.bel.size b4.size)); have T4 := hid t4; have M4 := hid m4; clear r4 b4 t4 m4)
          | (go_at_call 13; refine ra.mono ?_; rintro r w5 ⟨rfl, G', r5, m5⟩; have T5 := hid (T3.out.add T4.out M4.out r5 m5); clear r5 m5))
        exact ⟨⟨k + 1, L ++ [R], G, G', by omega, by go_num, by unfold Hid; rw [List.length_append, hL.out]; rfl, T5⟩, by simp [intOf]; omega⟩
    · obtain rfl : k = n := by omega
      have e0 : ¬ (k : Int) < (k : Int) := by omega
      go_wp2
      go_ret2
      exact ⟨q, q', rfl, h, L, hL.out, F, F', hTt.out⟩
end Chn
end Go.Proofs.YtjcapdkibbjmiaaGreatDoor

namespace Go.Proofs.YtjcapdkibbjmiaaGreatDoor
open Go.RowKit Go.Shelf
namespace Chn
theorem nen_inC (x : Addr) (n c : Nat) (w : World) : (binOp .eql 23 (.slice (some x) n c) (.slice none 0 0)).run Tryz.prog w = .ok (.bool false) w := by kernel_rfl
theorem own_emptyI (w : World) : OwnM 1 (w.alloc (.cells #[] 3)) (.slice (some ⟨w.heap.size, 0, none⟩) 0 0) 0 [] :=
  .inr ⟨w.heap.size, 0, rfl, Nat.le_refl _, by rw [maxLen]; omega, rfl, (fun j v hv => by simp at hv), (fun j hj => by omega), by simp⟩
set_option maxRecDepth 100000 in
set_option maxHeartbeats 4000000 in
theorem cloneIC (x : Addr) (cap : Nat) (L : List Nat) (m : Nat) (hm : Hid (L.length = m)) (w : World) (hA : AtI w (some x) (ix L)) (hlen : m ≤ 1000000) :
    Calls Tryz.prog 56 #[.slice (some x) m cap] w fun r w' => ∃ v, r = .returned v ∧ OwnM 1 w' v m (ivC L) ∧ (∀ k, v.ownBlock = some k → w.heap.size ≤ k) ∧ Below w.heap.size w w' := by
  have b0 := (Below.refl w.heap.size w).alloc (Nat.le_refl _) (.cells #[] 3)
  obtain ⟨i0, hi, hz0, hz1, hz2⟩ := info_parts infoIC
  have hA0 : AtI _ (some x) (ix L) := hA.below b0 (Nat.le_refl _)
  have hsrc : Src Tryz.prog 1 23 (.slice (some x) m cap) m (ivC L) (w.alloc (.cells #[] 3)) :=
    Src.ofSlice _ Tryz.underlying23 x m cap (ivC L) (by rw [ivC_len, hm.out, Nat.mul_one]) (fun j u hj => by
      simp only [ivC, List.getElem?_map, Option.map_eq_some_iff] at hj
      obtain ⟨p, hp, rfl⟩ := hj
      obtain ⟨y, hy, _, hc⟩ := hA0 j (p : Int) (by unfold ix; rw [List.getElem?_map, hp]; rfl)
      obtain rfl := Option.some.inj hy
      exact hc) (fun u hu => by obtain ⟨p, _, rfl⟩ := List.mem_map.1 hu; rfl)
  obtain ⟨v', w', hap, hO, hG⟩ := run_append_M (P := Tryz.prog) _ 23 23 23 3 i0 (.int .i64 0) Tryz.underlying23 hi hz0 hz1 rfl _ 0 [] (own_emptyI w) _ m (ivC L) hsrc
    (by rw [hz2]; omega) (by rw [maxLen]; omega) (fun e => by cases e)
  rw [Nat.zero_add, List.nil_append] at hO
  have hne := nen_inC x m cap
  have HO := hid hO
  have HV : Hid (∀ k, v'.ownBlock = some k → w.heap.size ≤ k) := fun k hk => by
    rcases Grow.alt' hG k hk with e | e
    · have : some w.heap.size = some k := e
      have := Option.some.inj this
      omega
    · rw [size_alloc] at e; omega
  have HB : Hid (Below w.heap.size w w') := b0.trans (keep_belowC hG.keep (by simp) fun k e => by
    have : some w.heap.size = some k := e
    have := Option.some.inj this
    omega)
  clear hA hO hG b0 hA0 hsrc hm
  go_enter Tryz.func56, Tryz.ntmps56
  go_wp2_with (at_builtin; go_must (refine Lib.wpList_append_run _ rfl _ _ 23 23 rfl _ _ rfl rfl _ _ hap ?_))
  go_ret
  exact ⟨_, rfl, HO.out, HV.out, HB.out⟩
def pvH (L : List (List UInt8)) (hs : List Nat) : List (List UInt8) := (told hs).map fun s => Tree.root (Til.sg L s.1 s.2)
theorem sizeCh (a b : Value) : (Tryz.prog.info? 45).map (·.size) = some #[a, b].size := by kernel_rfl
def PvP (w : World) (L : List (List UInt8)) (hs : List Nat) (m k : Nat) (r : Ending) (w' : World) : Prop := ∃ v G, r = .returned (.tuple #[ch v (.slice (some ⟨G, 0, none⟩) k k), .int .i64 0]) ∧ OwnM 1 w' v m (ivC hs) ∧ (∀ i, v.ownBlock = some i → w.heap.size ≤ i ∧ i ≠ G) ∧ Row w' G (pvH L hs) ∧ w.heap.size ≤ G ∧ Below w.heap.size w w'
set_option maxRecDepth 100000 in
set_option maxHeartbeats 4000000 in
theorem proveC_ok (hs : List Nat) (HH : Hds hs) (m k : Nat) (hm : Hid (hs.length = m)) (hk : Hid ((told hs).length = k)) {w : World} {q h : Nat} {L : List (List UInt8)} {F : Nat → Prop} (t : TrL w q h L F) (Z : Tb w) (hl : ∀ x ∈ hs, x ≤ L.length) (x : Addr) (cap : Nat) (hA : AtI w (some x) (ix hs)) :
    Calls Tryz.prog 29 #[.pointer (some ⟨q, 0, none⟩), .slice (some x) m cap] w (PvP w L hs m k) := by
  have b0 := (Below.refl w.heap.size w).alloc (Nat.le_refl _) (.cells #[.slice none 0 0, .slice none 0 0] 45)
  have r0 := heap_alloc_new w (.cells #[.slice none 0 0, .slice none 0 0] 45)
  have lm : m ≤ 64 := by rw [← hm.out]; exact HH.le
  have lm1 : 1 ≤ m := by rw [← hm.out]; exact HH.ne
  have lk : k ≤ 2583 := by rw [← hk.out]; exact tol_few HH (by have := HH.ne; omega)
  have hxl : (ix hs).length = m := by rw [← hm.out]; simp [ix]
  have i1 := fun w' (bb : Below w.heap.size w w') => mayBe_any (ix hs) (some x) cap w' (by rw [hxl]; omega) (hA.below bb (Nat.le_refl _))
  rw [hds_mayB HH, hxl] at i1
  have i2 := fun w' (bb : Below w.heap.size w w') => tSizeL (t.below bb)
  have i3 := fun w' (bb : Below w.heap.size w w') => toldOf_any hs HH (some x) cap w' (hA.below bb (Nat.le_refl _))
  rw [hm.out] at i3
  have i4 := fun w' (bb : Below w.heap.size w w') => cloneIC x cap hs m hm w' (hA.below bb (Nat.le_refl _)) (by omega)
  have htl : Hid (∀ s ∈ told hs, s.1 ≤ s.2 ∧ s.2 ≤ L.length) := fun s hs' => by
    have h1 := (tol_lo HH (i := hs.length - 1) (by have := HH.ne; omega) s hs').1
    refine ⟨Nat.le_of_lt h1, ?_⟩
    have h2 := tol_sub hs _ s hs'
    have key : ∀ i, i < hs.length → s ∈ allP hs i → s.2 ≤ L.length := fun i => by
      induction i with
      | zero => intro _ e; cases e
      | succ i ih =>
        intro hi e
        rcases List.mem_append.1 e with e | e
        · exact ih (by omega) e
        · have hp := HH.pair hi
          have := (prf_lo hp.1 (Nat.le_of_lt hp.2.1) s e).2
          have := hl _ (List.mem_of_getElem? (getD_at hi))
          omega
    exact key _ (by have := HH.ne; omega) h2
  have i5 := fun w' (bb : Below w.heap.size w w') (a b : Nat) (ha : a ≤ b) (hb : b ≤ L.length) => tPart_any (t.below bb) (a : Int) (b : Int) (Z.below bb Z.lt) (tPartO_nat ha hb)
  obtain ⟨M, hM⟩ : ∃ M, m = M + 1 := ⟨m - 1, by omega⟩
  have fact : ∀ w', Below w.heap.size w w' → w'.cell? (x.add M) = some (.int .i64 (hs.getD M 0 : Int)) := fun w' bb => by
    obtain ⟨y, hy, _, h0⟩ := (hA.below bb (Nat.le_refl _)) M _ (ix_at (by rw [hm.out]; omega))
    obtain rfl := Option.some.inj hy
    exact h0
  have hlast : hs.getD M 0 ≤ L.length := hl _ (List.mem_of_getElem? (getD_at (by rw [hm.out]; omega)))
  have x0 := fact _ b0
  have HF := hid fact
  generalize hs.getD M 0 = z at *
  have z1 : ¬ (L.length : Int) < (z : Int) := by omega
  have z2 : decide (L.length < z) = false := decide_eq_false (by omega)
  have v1 : IntKind.i64.wrap ((m : Int) - 1) = (M : Int) := by rw [IntKind.wrap_i64]; omega
  have v3 : (0 : Int) ≤ (M : Int) := by omega
  have v4 : (M : Int) < (m : Int) := by omega
  have HMM := hid hM
  clear hM
  have B0 := hid b0
  have R0 := hid r0
  generalize hLL : L.length = ll at *
  have HLL := hid hLL
  have mk := fun w' => make_texts w' k (by omega)
  clear hA b0 r0 t Z fact hl hxl hLL hlast
  go_enter Tryz.func29, Tryz.ntmps29
  go_wp2
  go_region_held3 (fun w' => w'.cell? (x.add M) = some (.int .i64 (z : Int))) (first | exact x2 | exact x1 | exact x0) (first
    | (go_at_call 48; refine (i1 _ B0.out.drew).mono ?_; rintro r w1 ⟨rfl, b1⟩; have b1 := drewBelow8 b1; have B1 := hid (B0.out.trans (b1.mono B0.out.size)); have x1 := HF.out _ B1.out; have R1 := hid ((b1.block _ (lt_of_heap R0.out)).trans R0.out); clear b1)
    | (go_at_call 54; refine (i2 _ B1.out).mono ?_; rintro r w2 ⟨rfl, hw2⟩; have hw2 := hw2.symm; subst hw2; have x2 := x1))
  have i6 := i3 _ B1.out
  clear i1 i2 i3 x0 x1 x2 HF
  go_wp2_with (go_at_call 49; refine i6.mono ?_; rintro r w3 ⟨v, b, rfl, tv, hb, hv, b3⟩; obtain ⟨va, vc, hva, _, _⟩ := tv.own.shape; have TV := hid tv.own; have B3 := hid (B1.out.trans (b3.mono B1.out.size)); have R3 := hid ((b3.block _ (lt_of_heap R1.out)).trans R1.out); rw [hk.out] at hva; subst hva; have hfd := fieldTd va k vc (.map (some b)); have mk1 := mk w3; clear tv hb hv b3)
  have z3 := B3.out.size
  have zr := lt_of_heap R3.out
  have bA := (Below.refl w3.heap.size w3).alloc (Nat.le_refl _) (.cells (svs (List.replicate k [])).toArray 9)
  have P0 : Hid (Row (w3.alloc (.cells (svs (List.replicate k [])).toArray 9)) w3.heap.size (vpreC (fun s => Tree.root (Til.sg L s.1 s.2)) (told hs) 0)) := by
    have := heap_alloc_new w3 (.cells (svs (List.replicate k [])).toArray 9)
    unfold Hid Row
    rw [vpreC_zero, hk.out]
    exact this
  have B4 := hid (show Below w3.heap.size w3 (w3.alloc (.cells (svs (List.replicate k [])).toArray 9)) from bA)
  obtain ⟨TT, hTT⟩ : ∃ TT, told hs = TT := ⟨_, rfl⟩
  have HTT := hid hTT
  unfold Hid at TV hk htl P0
  rw [hTT] at TV hk htl P0
  have TV := hid TV
  have hk := hid hk
  have htl := hid htl
  have P0 := hid P0
  clear i6 mk mk1 bA hTT hfd
  go_loopw [8, 9, 33] (fun _ _ i w' => ∃ j : Nat, j ≤ k ∧ i = .int .i64 (j : Int) ∧ Hid (Row w' w3.heap.size (vpreC (fun s => Tree.root (Til.sg L s.1 s.2)) TT j)) ∧ Hid (Below w3.heap.size w3 w')) (fun _ _ i _ => k - (intOf i).toNat)
  case atStart => exact ⟨0, by omega, rfl, P0, B4⟩
  case round =>
    clear P0 B4
    obtain ⟨j, hj, rfl, hRw, hBw⟩ := hrel
    by_cases hjk : j < k
    · have e0 : (j : Int) < (k : Int) := by omega
      have e1 : (0 : Int) ≤ (j : Int) := by omega
      have hjT : j < TT.length := by rw [hk.out]; exact hjk
      obtain ⟨g, hg0, hg, c0, c1⟩ := ownP_atC (show OwnP wr (.slice va k vc) TT from TV.out.below hBw.out) (List.getElem?_eq_getElem hjT)
      subst hg0
      have hs' := htl.out _ (List.getElem_mem hjT)
      have bC := (Below.refl wr.heap.size wr).alloc (Nat.le_refl _) (.cells #[.int .i64 (TT[j].1 : Int), .int .i64 (TT[j].2 : Int)] 60)
      have bC3 := hBw.out.trans (bC.mono hBw.out.size)
      have i7 := i5 _ (B3.out.trans (bC3.mono z3)) TT[j].1 TT[j].2 hs'.1 (by have := hs'.2; have := HLL.out; omega)
      have rC := hid (hRw.out.below bC hRw.out.lt)
      have BC := hid bC3
      have hset := hid (vpreC_set (fun s => Tree.root (Til.sg L s.1 s.2)) TT hjT)
      have rl : j < (vpreC (fun s => Tree.root (Til.sg L s.1 s.2)) TT j).length := by rw [vpreC_len _ _ (by omega)]; exact hjT
      obtain ⟨R, hR⟩ : ∃ R, Tree.root (Til.sg L TT[j].1 TT[j].2) = R := ⟨_, rfl⟩
      unfold Hid at hset
      rw [hR] at i7 hset
      have hset := hid hset
      rw [show sv R = .string ⟨R.toArray⟩ from rfl] at i7
      generalize (TT[j].1 : Int) = sx at *
      generalize (TT[j].2 : Int) = sy at *
      clear hs' bC bC3 hRw hBw hR
      go_wp2_with (go_at_call 55; refine i7.mono ?_; rintro r w5 ⟨rfl, b5⟩; have r5 := hid (rC.out.below b5 rC.out.lt); have f5 := r5.out.free rl; have d5 := r5.out.cell (List.getElem?_eq_getElem rl); have B5 := hid (BC.out.trans (b5.mono BC.out.size)); clear b5)
      refine ⟨⟨j + 1, by omega, by go_num, ?_, ?_⟩, by simp [intOf]; omega⟩
      · have := r5.out.set j R
        rw [hset.out] at this
        exact this
      · exact Below.setCell (p := ⟨w3.heap.size, j, none⟩) B5.out (Nat.le_refl _) _
    · obtain rfl : j = k := by omega
      have e0 : ¬ (j : Int) < (j : Int) := by omega
      have bw := B3.out.trans (hBw.out.mono z3)
      have i8 := i4 _ bw
      have R6 := hid ((hBw.out.block _ zr).trans R3.out)
      have zrow := hRw.out.lt
      go_wp2_with (go_at_call 56; refine i8.mono ?_; rintro r w6 ⟨vi, rfl, oi, gi, b6⟩; obtain ⟨ia, ic, hia, _, _⟩ := oi.shape; have R7 := hid ((b6.block _ (lt_of_heap R6.out)).trans R6.out); have k0 : w6.cell? ⟨w.heap.size, 0, none⟩ = some (.slice none 0 0) := (cell_of_row _ _ _ _ _ _ R7.out).trans rfl; have k1 : w6.cell? ⟨w.heap.size, 1, none⟩ = some (.slice none 0 0) := (cell_of_row _ _ _ _ _ _ R7.out).trans rfl; have l0 := frozen_of_row _ _ 0 _ _ R7.out; have l1 := frozen_of_row _ _ 1 _ _ R7.out; have OI := hid oi; have GI := hid gi; have B6 := hid b6; subst hia; clear oi gi b6)
      have R8 := heap_setCell_same _ w.heap.size 1 _ _ (.slice (some ⟨w3.heap.size, 0, none⟩) j j) (heap_setCell_same w6 w.heap.size 0 _ _ (.slice ia m ic) R7.out)
      have k9 : Keep (fun i => i = w.heap.size) w6 ((w6.setCell ⟨w.heap.size, 0, none⟩ (.slice ia m ic)).setCell ⟨w.heap.size, 1, none⟩ (.slice (some ⟨w3.heap.size, 0, none⟩) j j)) := (Keep.ofSet (S := fun i => i = w.heap.size) w6 w.heap.size 0 (.slice ia m ic) rfl).trans (Keep.ofSet (S := fun i => i = w.heap.size) _ w.heap.size 1 (.slice (some ⟨w3.heap.size, 0, none⟩) j j) rfl) fun _ _ e => e
      have b9 := (bw.trans (B6.out.mono bw.size)).trans (keep_belowC k9 (bw.trans (B6.out.mono bw.size)).size (fun i e => by omega))
      have gi : ∀ i, (Value.slice ia m ic).ownBlock = some i → wr.heap.size ≤ i := GI.out
      have zbw := hBw.out.size
      refine bodyPost_ret (results_rowC_tmp rfl _ _ w.heap.size 45 _ (0, 0) _ rfl R8 Tryz.underlying45 rfl (sizeCh _ _)) rfl ⟨_, w3.heap.size, rfl, OI.out.keep k9 (fun i hi e => by have := gi i hi; omega), fun i hi => ?_, ?_, z3, b9⟩
      · have := gi i hi
        omega
      · have r6 := hRw.out.below B6.out zrow
        rw [← hk.out, vpreC_all] at r6
        unfold pvH
        rw [HTT.out]
        unfold Row at r6 ⊢
        rw [k9.block w3.heap.size (lt_of_heap r6) (by omega)]
        exact r6
end Chn
end Go.Proofs.YtjcapdkibbjmiaaGreatDoor
