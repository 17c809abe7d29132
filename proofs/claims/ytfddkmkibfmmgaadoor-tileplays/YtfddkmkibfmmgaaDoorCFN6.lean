import Derived.Test.YtfddkmkibfmmgaaDoorCFN5
namespace Go.Proofs.YtfddkmkibfmmgaaDoor
open Go.RowKit
theorem Row.own {w : World} {g : Nat} {L : List (List UInt8)} (h : Row w g L) (hl : L.length ≤ 8796093021952) : Own w 0 (.slice (some ⟨g, 0, none⟩) L.length L.length) (svs L) := by
  refine .inr ⟨g, L.length, by rw [svs_length], Nat.zero_le _, by rw [svs_length]; exact Nat.le_refl _, by rw [maxLen]; omega, rangeAt_of_list h (fun j v hv => by rw [Nat.zero_add]; exact hv), there_of_row h 0 _ (by simp [svs]), h.lt⟩
/-- blocks of F alone were touched; F' has what is new besides -/
structure Mov (F : Nat → Prop) (w w' : World) (F' : Nat → Prop) : Prop where
  keep : Keep F w w'
  new : ∀ k, F' k → F k ∨ w.heap.size ≤ k
theorem sizeEd : (Tryd.prog.info? 88).map (·.size) = some 2 := by kernel_rfl
/-- an edge: its hashes, how many leaves, its blocks -/
structure Ed (w : World) (q : Nat) (H : List (List UInt8)) (n : Nat) (F : Nat → Prop) : Prop where
  ex : ∃ v, Nl w q #[v, .int .i64 (n : Int)] 88 v H ∧ ∀ k, v.ownBlock = some k → F k
  self : F q
  lt : ∀ k, F k → 4 ≤ k ∧ k < w.heap.size
  len : H.length = (Cut.cut 0 n).length
  most : n ≤ 1099511627776
theorem Ed.keep {w w' : World} {q : Nat} {H : List (List UInt8)} {n : Nat} {F S : Nat → Prop} (h : Ed w q H n F) (hk : Keep S w w') (hd : ∀ k, F k → ¬ S k) : Ed w' q H n F := by
  obtain ⟨v, h1, h2⟩ := h.ex
  refine ⟨⟨v, h1.keep hk fun k hk' => hd k ?_, h2⟩, h.self, fun k hk' => ⟨(h.lt k hk').1, Nat.lt_of_lt_of_le (h.lt k hk').2 hk.size⟩, h.len, h.most⟩
  rcases hk' with rfl | e
  · exact h.self
  · exact h2 k e
theorem Ed.below {w w' : World} {q : Nat} {H : List (List UInt8)} {n : Nat} {F : Nat → Prop} (h : Ed w q H n F) (hb : Below w.heap.size w w') : Ed w' q H n F :=
  h.keep (Keep.ofBelow (S := fun _ => False) hb) fun _ _ e => e
theorem Ed.mov {w w' : World} {q : Nat} {H : List (List UInt8)} {n : Nat} {F G G' : Nat → Prop} (h : Ed w q H n F) (hm : Mov G w w' G') (hd : ∀ k, F k → ¬ G k) : Ed w' q H n F ∧ ∀ k, F k → ¬ G' k := by
  refine ⟨h.keep hm.keep hd, fun k hk e => ?_⟩
  rcases hm.new k e with e' | e'
  · exact hd k hk e'
  · have := (h.lt k hk).2; omega
theorem Ed.h81 {w : World} {q : Nat} {H : List (List UInt8)} {n : Nat} {F : Nat → Prop} (h : Ed w q H n F) : H.length ≤ 81 := by
  rw [h.len]; exact Cut.cut_len h.most (Nat.zero_le _)
/-- what lies in its row -/
theorem Ed.open {w : World} {q : Nat} {H : List (List UInt8)} {n : Nat} {F : Nat → Prop} (h : Ed w q H n F) : ∃ a c, w.cell? ⟨q, 0, none⟩ = some (.slice a H.length c) ∧ w.cell? ⟨q, 1, none⟩ = some (.int .i64 (n : Int)) ∧ w.frozen? ⟨q, 1, none⟩ = false ∧ At w a H ∧ q < w.heap.size ∧ Nl w q #[.slice a H.length c, .int .i64 (n : Int)] 88 (.slice a H.length c) H ∧ ∀ k, (Value.slice a H.length c).ownBlock = some k → F k := by
  obtain ⟨v, h1, h2⟩ := h.ex
  obtain ⟨a, c, rfl⟩ := h1.own.shape
  rw [svs_length] at h1 h2
  refine ⟨a, c, h1.c0, by rw [cell_of_row w q 1 _ _ _ h1.row]; rfl, frozen_of_row _ _ _ _ _ h1.row, fun j p hp => ?_, lt_of_heap h1.row, h1, h2⟩
  rcases h1.own with ⟨_, e⟩ | ⟨g, cap, e, _, _, _, h4, _, h6⟩
  · have hn : H = [] := List.map_eq_nil_iff.1 e
    rw [hn] at hp
    cases hp
  · injection e with e1 e2 e3
    subst e1
    refine ⟨_, rfl, h6, ?_⟩
    rw [Addr.add_mid, Nat.zero_add]
    have := h4 j (sv p) (by simp [svs, hp])
    rwa [Nat.zero_add] at this
/-- an edge that is new -/
theorem Ed.made {w w' : World} {q : Nat} {v : Value} {H : List (List UInt8)} {n B : Nat} (h : Nl w' q #[v, .int .i64 (n : Int)] 88 v H) (hB : 4 ≤ B) (hq : B ≤ q) (hv : ∀ k, v.ownBlock = some k → B ≤ k) (hl : H.length = (Cut.cut 0 n).length) (hn : n ≤ 1099511627776) (_hb : Below w.heap.size w w') : Ed w' q H n (fun k => B ≤ k ∧ k < w'.heap.size) :=
  ⟨⟨v, h, fun k hk => ⟨hv k hk, h.own.lt k hk⟩⟩, ⟨hq, lt_of_heap h.row⟩, fun _ hk => ⟨Nat.le_trans hB hk.1, hk.2⟩, hl, hn⟩
set_option maxRecDepth 100000 in
theorem fNew_any (w : World) (hT : 4 ≤ w.heap.size) : Calls Tryd.prog 19 #[] w fun r w' => r = .returned (.pointer (some ⟨w.heap.size, 0, none⟩)) ∧ Ed w' w.heap.size [] 0 (fun k => w.heap.size ≤ k ∧ k < w'.heap.size) ∧ Below w.heap.size w w' := by
  go_enter Tryd.func19, Tryd.ntmps19
  go_wp2
  go_ret
  have hb := (Below.refl w.heap.size w).alloc (Nat.le_refl _) (.cells #[Value.slice none 0 0, .int .i64 (0 : Int)] 88)
  have hr := heap_alloc_new w (.cells #[Value.slice none 0 0, .int .i64 (0 : Int)] 88)
  refine ⟨rfl, Ed.made (w := w) (v := .slice none 0 0) (n := 0) ⟨hr, rfl, Own.nil _ _, fun e => by cases e⟩ hT (Nat.le_refl _) (fun _ hk => by cases hk) (by rw [Cut.cut_nil]; rfl) (by omega) hb, hb⟩
set_option maxRecDepth 100000 in
theorem orNone_any (q : Nat) (w : World) : Calls Tryd.prog 42 #[.pointer (some ⟨q, 0, none⟩)] w fun r w' => r = .returned (.pointer (some ⟨q, 0, none⟩)) ∧ w' = w := by
  go_enter Tryd.func42, Tryd.ntmps42
  go_wp2
  go_ret
  exact ⟨rfl, rfl⟩
set_option maxRecDepth 100000 in
theorem fRoot_any {w : World} {q : Nat} {H : List (List UInt8)} {n : Nat} {F : Nat → Prop} (h : Ed w q H n F) (T : Tabs w) : Calls Tryd.prog 20 #[.pointer (some ⟨q, 0, none⟩)] w fun r w' => r = .returned (sv (Cut.fold H)) ∧ Below w.heap.size w w' := by
  obtain ⟨a, c, c0, _, _, hA, _, _, _⟩ := h.open
  have i1 := froot_any H a c w (by have := h.h81; omega) hA T
  generalize H.length = m at *
  clear hA T h
  go_enter Tryd.func20, Tryd.ntmps20
  go_wp2_with (first
    | (go_at_call 42; refine (orNone_any q _).mono ?_; rintro r w1 ⟨rfl, rfl⟩)
    | (go_at_call 43; refine i1.mono ?_; rintro r w2 ⟨rfl, hw2⟩))
  go_ret
  exact ⟨rfl, hw2⟩
theorem Ed.added {w w2 : World} {q : Nat} {H R : List (List UInt8)} {n : Nat} {F : Nat → Prop} {v v' : Value} (h : Ed w q H n F) (hF : ∀ k, v.ownBlock = some k → F k) (hL : Nl w2 q #[v', .int .i64 (n : Int)] 88 v' R) (hK : Keep (Fp q v) w.drew w2)
    (hv : ∀ j, v'.ownBlock = some j → v.ownBlock = some j ∨ w.drew.heap.size ≤ j) (hl : R.length = (Cut.cut 0 (n + 1)).length) (hn : n < 1099511627776) :
    ∃ F', Ed (w2.setCell ⟨q, 1, none⟩ (.int .i64 ((n + 1 : Nat) : Int))) q R (n + 1) F' ∧ Mov F w (w2.setCell ⟨q, 1, none⟩ (.int .i64 ((n + 1 : Nat) : Int))) F' := by
  have hsz : w.heap.size ≤ w2.heap.size := hK.size
  have hs2 : (w2.setCell ⟨q, 1, none⟩ (.int .i64 ((n + 1 : Nat) : Int))).heap.size = w2.heap.size := by simp [World.setCell]
  have hFp : ∀ k, Fp q v k → F k := fun k hk => by
    rcases hk with rfl | e
    · exact h.self
    · exact hF k e
  have hT := (h.lt q h.self).1
  have hTw := (h.lt q h.self).2
  refine ⟨fun k => F k ∨ (w.heap.size ≤ k ∧ k < w2.heap.size), ⟨⟨v', ⟨heap_setCell_same w2 q 1 _ _ _ hL.row, rfl, hL.own.keep (Keep.ofSet (S := fun k => k = q) w2 q 1 _ rfl) (fun k hk e => hL.ne (e ▸ hk)), hL.ne⟩, fun k hk => ?_⟩, .inl h.self, fun k hk => ?_, hl, by omega⟩, ⟨?_, fun k hk => ?_⟩⟩
  · rcases hv k hk with e | e
    · exact .inl (hF k e)
    · exact .inr ⟨e, hL.own.lt k hk⟩
  · rw [hs2]
    rcases hk with hk | hk
    · exact ⟨(h.lt k hk).1, Nat.lt_of_lt_of_le (h.lt k hk).2 hsz⟩
    · exact ⟨by omega, hk.2⟩
  · have k1 : Keep F w w2 := ⟨hK.os, hK.tape, hK.output, hK.size, fun k hk hf => hK.block k hk fun e => hf (hFp k e)⟩
    exact k1.trans (Keep.ofSet (S := fun k => k = q) w2 q 1 _ rfl) fun k _ e => by subst e; exact h.self
  · rcases hk with hk | hk
    · exact .inl hk
    · exact .inr hk.1
set_option maxRecDepth 100000 in
theorem fAdd_bad (q : Nat) (x : List UInt8) (hx : x.length ≠ 32) (w : World) : Calls Tryd.prog 21 #[.pointer (some ⟨q, 0, none⟩), sv x] w fun r w' => r = .returned (.int .i64 52) ∧ w' = w := by
  have hs := sv_size x
  have i1 := fisHash_is ⟨x.toArray⟩ false (by rw [hs, beq_eq_false_iff_ne]; omega)
  show Calls _ _ #[_, .string ⟨x.toArray⟩] _ _
  go_enter Tryd.func21, Tryd.ntmps21
  go_wp2_with (go_at_call 44; refine (i1 _).mono ?_; rintro r w1 ⟨rfl, rfl⟩)
  go_ret
  exact ⟨rfl, rfl⟩
set_option maxRecDepth 100000 in
theorem fAdd_full {w : World} {q : Nat} {H : List (List UInt8)} {F : Nat → Prop} (h : Ed w q H 1099511627776 F) (x : List UInt8) (hx : x.length = 32) : Calls Tryd.prog 21 #[.pointer (some ⟨q, 0, none⟩), sv x] w fun r w' => r = .returned (.int .i64 53) ∧ w' = w := by
  have hs := sv_size x
  have i1 := fisHash_is ⟨x.toArray⟩ true (by rw [hs, hx]; rfl)
  obtain ⟨a, c, _, c1, _, _, _, _, _⟩ := h.open
  show Calls _ _ #[_, .string ⟨x.toArray⟩] _ _
  go_enter Tryd.func21, Tryd.ntmps21
  go_wp2_with (go_at_call 44; refine (i1 _).mono ?_; rintro r w1 ⟨rfl, rfl⟩)
  go_ret
  exact ⟨rfl, rfl⟩
set_option maxRecDepth 100000 in
set_option maxHeartbeats 2000000 in
theorem fAdd_any {w : World} {q : Nat} {H : List (List UInt8)} {n : Nat} {F : Nat → Prop} (h : Ed w q H n F) (x : List UInt8) (hx : x.length = 32) (hn : n < 1099511627776) (T : Tabs w) : Calls Tryd.prog 21 #[.pointer (some ⟨q, 0, none⟩), sv x] w fun r w' => r = .returned (.int .i64 0) ∧
      ∃ F', Ed w' q (Cut.takeH 0 n 1 x H) (n + 1) F' ∧ Mov F w w' F' := by
  have hs := sv_size x
  have i1 := fisHash_is ⟨x.toArray⟩ true (by rw [hs, hx]; rfl)
  obtain ⟨a, c, _, c1, _, _, hql, hN, hF⟩ := h.open
  have i2 := take_any q 0 n 0 _ _ _ H x w.drew ⟨hN.row, hN.at0, hN.own.drew, hN.ne⟩ (T.below (Below.refl 4 w).drew (Nat.le_refl _)) (h.lt q h.self).1 (fun j hj => (h.lt j (hF j hj)).1) (by have : (2 : Nat) ^ 0 = 1 := rfl; omega) (Nat.zero_le _) (Nat.mod_one _) h.len
  rw [show (2 : Nat) ^ 0 = 1 from rfl] at i2
  have hTl := Cut.takeH_length (a := 0) (b := n) (n := 1) (x := x) (H := H) (by omega) (Nat.zero_le _) ⟨0, rfl⟩ (Nat.mod_one _) h.len
  have Hh := hid h
  have HF := hid hF
  have HTl := hid hTl
  obtain ⟨R, hR⟩ : ∃ R, Hid (Cut.takeH 0 n 1 x H = R) := ⟨_, rfl⟩
  rw [hR.out] at i2 HTl ⊢
  clear h hN hF T hTl
  have b1 : ((n : Int) == 1099511627776) = false := by simp; omega
  rw [show sv x = .string ⟨x.toArray⟩ from rfl] at i2 ⊢
  go_enter Tryd.func21, Tryd.ntmps21
  go_wp2_with (go_at_call 44; refine (i1 _).mono ?_; rintro r w1 ⟨rfl, rfl⟩)
  go_region_with (go_at_call 45; refine i2.mono ?_; rintro r w2 ⟨rfl, v', hL2, hK2, hv2⟩; have d1 : w2.cell? ⟨q, 1, none⟩ = some (.int .i64 (n : Int)) := (by rw [cell_of_row w2 q 1 _ _ _ hL2.row]; rfl); have f1 : w2.frozen? ⟨q, 1, none⟩ = false := frozen_of_row _ _ _ _ _ hL2.row)
  all_goals go_wp2
  all_goals go_ret
  all_goals
    refine ⟨rfl, ?_⟩
    exact Hh.out.added HF.out hL2 hK2 hv2 HTl.out hn
/-- F1: what Load answers beside an edge -/
def ldE (n : Int) (l : List (List UInt8)) : Int := if 0 ≤ n ∧ n ≤ 1099511627776 then (if l.length = (Cut.cut 0 n.toNat).length then (if hsB l = true then 0 else 52) else 50) else 1
/-- what comes out of Load -/
def LdP (w : World) (n : Int) (l : List (List UInt8)) (r : Ending) (w' : World) : Prop :=
  Below w.heap.size w w' ∧ if ldE n l = 0 then ∃ q, r = .returned (.tuple #[.pointer (some ⟨q, 0, none⟩), .int .i64 0]) ∧ Ed w' q l n.toNat (fun k => w.heap.size ≤ k ∧ k < w'.heap.size) else r = .returned (.tuple #[.pointer none, .int .i64 (ldE n l)])
theorem LdP.bad {w w' : World} {n c : Int} {l : List (List UInt8)} (h : Hid (ldE n l = c)) (hc : c ≠ 0) (hb : Below w.heap.size w w') : LdP w n l (.returned (.tuple #[.pointer none, .int .i64 c])) w' := by
  unfold LdP
  rw [h.out, if_neg hc]
  exact ⟨hb, rfl⟩
theorem LdP.ok {w w' : World} {n : Int} {l : List (List UInt8)} {q : Nat} (h : Hid (ldE n l = 0)) (he : Ed w' q l n.toNat (fun k => w.heap.size ≤ k ∧ k < w'.heap.size)) (hb : Below w.heap.size w w') : LdP w n l (.returned (.tuple #[.pointer (some ⟨q, 0, none⟩), .int .i64 0])) w' := by
  unfold LdP
  rw [h.out, if_pos rfl]
  exact ⟨hb, q, rfl, he⟩
end Go.Proofs.YtfddkmkibfmmgaaDoor
