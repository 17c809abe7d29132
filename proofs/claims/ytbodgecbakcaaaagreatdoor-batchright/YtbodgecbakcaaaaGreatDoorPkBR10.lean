import Derived.Test.YtbodgecbakcaaaaGreatDoorPkBR9
import Derived.Test.YtbodgecbakcaaaaGreatDoorPkBP7
import Derived.Test.YtbodgecbakcaaaaGreatDoorPkBP11
import Derived.Test.YtbodgecbakcaaaaGreatDoorPkBL2
import Derived.Test.YtbodgecbakcaaaaGreatDoorPkSP18
import Derived.Test.YtbodgecbakcaaaaGreatDoorPkO23
/- Layer 12: Expand of both; what all calls answer (written by genBR10.py) -/
namespace Go.Proofs.YtbodgecbakcaaaaGreatDoor
open Go.RowKit Go.Shelf
namespace Bat
theorem paths_all {is : List Nat} {n : Nat} {val : Nat × Nat → List UInt8} (h : ∀ i ∈ is, i < n) : allP n 0 n is val = paths is n val := by
  unfold allP paths
  rw [Nat.zero_add, wit_all h]
theorem paths_len {is : List Nat} {n : Nat} {val : Nat × Nat → List UInt8} : ∀ p ∈ paths is n val, p.length ≤ n := fun p hp => by
  unfold paths at hp
  obtain ⟨i, _, rfl⟩ := List.mem_map.1 hp
  rw [List.length_map]
  exact pth_fuel n 0 n i
theorem row_ownM {w : World} {g : Nat} {l : List (List UInt8)} (h : Row w g l) (hl : l.length ≤ 1099511627776) : OwnM 1 w (.slice (some ⟨g, 0, none⟩) l.length l.length) l.length (svs l) := by
  refine .inr ⟨g, l.length, rfl, Nat.le_refl _, by rw [maxLen]; omega, by rw [svs_length, Nat.mul_one], ?_, ?_, h.lt⟩
  · intro j u hu
    rw [Nat.zero_add, cell_of_row _ _ _ _ _ _ h]
    simpa using hu
  · rw [Nat.mul_one]
    exact there_of_row h 0 l.length (by simp [svs])
theorem idx_at : ∀ {gs : List Nat}, gs.Pairwise (· < ·) → ∀ {k g : Nat}, gs[k]? = some g → gs.idxOf g = k
  | [], _, k, g, hk => by simp at hk
  | a :: gs, h, 0, g, hk => by
    obtain rfl : a = g := by simpa using hk
    simp
  | a :: gs, h, k + 1, g, hk => by
    obtain ⟨h1, h2⟩ := List.pairwise_cons.1 h
    have hk : gs[k]? = some g := by simpa using hk
    have hne := h1 g (List.mem_of_getElem? hk)
    rw [List.idxOf_cons, cond_eq_ite, if_neg (by simp; omega), idx_at h2 hk]
theorem ExpP.ll {w w' : World} {ps : List (List (List UInt8))} {r : Ending} (h : ExpP w ps r w') (hl : ∀ p ∈ ps, p.length ≤ 1099511627776) (hn : ps.length ≤ 1000000) : ∃ v, r = .returned (.tuple #[v, .int .i64 0]) ∧ LL w.heap.size w' v ps ∧ Below w.heap.size w w' := by
  obtain ⟨G, gs, rfl, hR, hgl, hL, hG, hb⟩ := h
  have hz : (List.zipWith lst gs ps).length = ps.length := by rw [List.length_zipWith]; omega
  refine ⟨_, rfl, ⟨List.zipWith lst gs ps, fun b => if b ∈ gs then gs.idxOf b + 3 else 0, ⟨hz, hb.size, fun b hb' => if_neg fun hm => ?_, fun k u p hu hp => ?_⟩, ?_, fun b hb' => ?_⟩, hb⟩
  · have := (hL.ge b hm).1
    omega
  · have hk : k < gs.length := by have := (List.getElem?_eq_some_iff.1 hu).1; omega
    have e1 : gs[k]? = some gs[k] := List.getElem?_eq_getElem hk
    have e2 : u = lst gs[k] p := by
      rw [List.getElem?_zipWith, e1, hp] at hu
      exact (Option.some.inj hu).symm
    subst e2
    refine ⟨row_ownM (hL.row k _ p e1 hp) (hl p (List.mem_of_getElem? hp)), fun b hb' => ?_⟩
    have e3 : gs[k] = b := Option.some.inj hb'
    have hm : b ∈ gs := by rw [← e3]; exact List.getElem_mem hk
    simp only [if_pos hm]
    rw [← e3, idx_at hL.up e1]
  · rw [hz]
    refine .inr ⟨G, ps.length, rfl, Nat.le_refl _, by rw [maxLen]; omega, by rw [hz, Nat.mul_one], fun j u hu => by rw [Nat.zero_add]; exact hR.cell hu, ?_, hR.lt⟩
    rw [Nat.mul_one]
    exact there_of_row hR 0 ps.length (by simp [hgl])
  · have e3 : G = b := Option.some.inj hb'
    subst e3
    exact ⟨hG, if_neg fun hm => by have := (hL.ge G hm).1; omega⟩
set_option maxRecDepth 100000 in
set_option maxHeartbeats 4000000 in
theorem rexpand12_bad (n : Int) (cs : List Int) (H L : List (List UInt8)) (ai ah al : Option Addr) (ci ch cl : Nat) (w : World) (hcs : cs.length ≤ 140737488355328) (hin : ∀ c ∈ cs, -9223372036854775808 ≤ c ∧ c ≤ 9223372036854775807) (hH : H.length ≤ 9223372036854775807) (hL : L.length ≤ 9223372036854775807) (hA : AtI w ai cs) (hAh : At w ah H) (hAl : At w al L) (he : knE n cs H L ≠ 0) :
    Calls Tryz.prog 21 #[bt n (.slice ai cs.length ci) (.slice ah H.length ch), .slice al L.length cl] w fun r w' => r = .returned (.tuple #[.slice none 0 0, .int .i64 (knE n cs H L)]) ∧ Below w.heap.size w w' := by
  have b0 := (Below.refl w.heap.size w).alloc (Nat.le_refl _) (.cells #[.int .i64 n, .slice ai cs.length ci, .slice ah H.length ch] 25)
  have s0 := BtI.new w n (.slice ai cs.length ci) (.slice ah H.length ch)
  have i1 := rwrong12_any n cs H L ai ah al ci ch cl _ (by omega) hin hH hL (hA.below b0 (Nat.le_refl _)) (hAh.below b0 (Nat.le_refl _)) (hAl.below b0 (Nat.le_refl _))
  have B0 := hid b0
  have x0 := s0.c0
  have x1 := s0.c1
  have x2 := s0.c2
  generalize knE n cs H L = c at *
  have h0' : (c != 0) = true := by simpa using he
  generalize H.length = hl at *
  generalize L.length = ll at *
  generalize cs.length = cl2 at *
  clear hA hAh hAl b0 s0 hin
  go_enter Tryz.func21, Tryz.ntmps21
  go_wp2_with (go_at_call 42; refine i1.mono ?_; rintro r w1 ⟨rfl, b1⟩; have B1 := hid (B0.out.trans (b1.mono B0.out.size)); clear b1)
  go_ret2
  exact ⟨rfl, B1.out⟩
set_option maxRecDepth 100000 in
set_option maxHeartbeats 4000000 in
theorem rexpand12_ok (n : Nat) (is : List Nat) (H L : List (List UInt8)) (val : Nat × Nat → List UInt8) (V : Val is n H L val) (hb0 : BatOk (n : Int) (ix is)) (hH32 : hsB8 H = true) (hL32 : hsB8 L = true) (ai ah al : Option Addr) (ci ch cl : Nat) (w : World) (qh1 : H.length ≤ ch) (qh2 : ch ≤ 9223372036854775807) (ql1 : L.length ≤ cl) (ql2 : cl ≤ 9223372036854775807) (hA : AtI w ai (ix is)) (hAh : At w ah H) (hAl : At w al L) :
    Calls Tryz.prog 21 #[bt (n : Int) (.slice ai is.length ci) (.slice ah H.length ch), .slice al L.length cl] w fun r w' => ∃ v, r = .returned (.tuple #[v, .int .i64 0]) ∧ LL w.heap.size w' v (paths is n val) ∧ Below w.heap.size w w' := by
  have b0 := (Below.refl w.heap.size w).alloc (Nat.le_refl _) (.cells #[.int .i64 (n : Int), .slice ai is.length ci, .slice ah H.length ch] 25)
  have s0 := BtI.new w (n : Int) (.slice ai is.length ci) (.slice ah H.length ch)
  have hlt := ix_lt hb0
  have n1 := hb0.n1
  have n2 := hb0.n2
  have l2 := hb0.l2
  have hup : is.Pairwise (· < ·) := ix_up hb0
  have hil : (ix is).length = is.length := by simp [ix]
  rw [hil] at l2
  have hk : knE (n : Int) (ix is) H L = 0 := kn_zero V hb0 hH32 hL32
  have i1 := rwrong12_any (n : Int) (ix is) H L ai ah al ci ch cl _ (by omega) (fun c hc => by
    obtain ⟨i, hi, rfl⟩ := List.mem_map.1 hc
    have := hlt i hi
    omega) (by omega) (by omega) (hA.below b0 (Nat.le_refl _)) (hAh.below b0 (Nat.le_refl _)) (hAl.below b0 (Nat.le_refl _))
  rw [hk, hil] at i1
  have VH : H = (Tree.othF n 0 n is).map val ++ [] := by rw [List.append_nil]; exact V.h
  have VL : L = (Tree.wit is 0 (0 + n)).map (fun i => val (i, i + 1)) ++ [] := by rw [List.append_nil, Nat.zero_add, wit_all hlt]; exact V.l
  have IH : Hid (∀ (w1 : World) (_hb : Below w.heap.size w w1), Calls Tryz.prog 44 #[.pointer (some ⟨w1.heap.size, 0, none⟩), .slice ai is.length ci, .int .i64 0, .int .i64 (n : Int)] (w1.alloc (.cells #[.slice ah H.length ch, .slice al L.length cl] 84)) fun r w' => ∃ v, r = .returned (.tuple #[sv (val (0, n)), v]) ∧ LL (w1.heap.size + 1) w' v (paths is n val) ∧ Keep (fun k => k = w1.heap.size) (w1.alloc (.cells #[.slice ah H.length ch, .slice al L.length cl] 84)) w') := fun w1 hb => by
    have hW : Wk w (w1.alloc (.cells #[.slice ah H.length ch, .slice al L.length cl] 84)) w1.heap.size H L := ⟨⟨ah, ch, al, cl, heap_alloc_new w1 _, qh1, qh2, ql1, ql2, hAh, hAl⟩⟩
    rw [VH, VL] at hW
    have hB := hb.alloc hb.size (.cells #[.slice ah H.length ch, .slice al L.length cl] 84)
    rw [← VH, ← VL] at hW
    have hW2 : Wk w (w1.alloc (.cells #[.slice ah H.length ch, .slice al L.length cl] 84)) w1.heap.size ((Tree.othF n 0 n is).map val ++ []) ((Tree.wit is 0 (0 + n)).map (fun i => val (i, i + 1)) ++ []) := by
      rw [← VH, ← VL]; exact hW
    have := rall12_any w w1.heap.size hb.size val n 0 n is ai ci _ [] [] (by omega) (Nat.le_refl _) (by omega) (by omega) l2 hup (hA.below hB (Nat.le_refl _)) V.n hB hW2
    rw [Nat.zero_add, paths_all hlt, size_alloc] at this
    exact this.mono fun r w' ⟨v, g1, g2, _, g3⟩ => ⟨v, g1, g2, g3⟩
  have MK : Hid (∀ w', Below w.heap.size (w.alloc (.cells #[.int .i64 (n : Int), .slice ai is.length ci, .slice ah H.length ch] 25)) w' → True) := fun _ _ => trivial
  have HS := hid s0
  have B0 := hid b0
  have x0 := s0.c0
  have x1 := s0.c1
  have x2 := s0.c2
  clear V hb0 hH32 hL32 hA hAh hAl VH VL MK hup hlt hk
  generalize H.length = hl at *
  generalize L.length = ll at *
  generalize val (0, n) = y at *
  generalize paths is n val = PS at *
  generalize is.length = il at *
  clear b0 s0
  go_enter Tryz.func21, Tryz.ntmps21
  go_wp2_with (go_at_call 42; fail)
  refine i1.mono ?_
  rintro r w1 ⟨rfl, b1⟩
  have S1 := HS.out.below b1
  have B1 := B0.out.trans (b1.mono B0.out.size)
  have iH := IH.out w1 B1
  have b2 := (Below.refl w1.heap.size w1).alloc (Nat.le_refl _) (.cells #[.slice ah hl ch, .slice al ll cl] 84)
  have S2 := S1.below b2
  have y2 := S1.c2
  have z0 := S2.c0
  have z1 := S2.c1
  have B2 := hid (B1.trans (b2.mono B1.size))
  have ls := hid B1.size
  clear b1 b2 B1 S1 S2 HS IH i1 x0 x1 x2
  go_wp2_with (go_at_call 44; (with_reducible refine iH.mono ?_); rintro r w7 ⟨v7, rfl, l7, k7⟩; have L7 := hid l7; have K7 := hid k7; clear k7 l7)
  go_ret2
  exact ⟨_, rfl, L7.out.mono (by have := ls.out; omega), B2.out.trans (keep_below K7.out B2.out.size (fun k e => by have := ls.out; omega))⟩
theorem an12 (n : Int) (cs : List Int) (H L : List (List UInt8)) : ∃ t ps, An n cs H L t ps := by
  by_cases h : knE n cs H L = 0
  · obtain ⟨m, is, h1, h2, h3, h4, h5, h6, h7⟩ := knE_ok h
    have n1 := h3.n1
    obtain ⟨val, V⟩ := val_is is m H L (by omega) ((ix_up h3).imp fun h => Nat.ne_of_lt h) h4 h5
    exact ⟨val (0, m), paths is m val, fun h' => absurd h h', fun _ => ⟨m, is, val, h1, h2, h3, V, h6, h7, rfl, rfl⟩⟩
  · exact ⟨[], [], fun _ => ⟨rfl, rfl⟩, fun h' => absurd h' h⟩
structure Ar (w : World) (n : Int) (cs : List Int) (H L : List (List UInt8)) (ai ah al : Option Addr) (ch cl : Nat) : Prop where
  lc : cs.length ≤ 140737488355328
  ic : ∀ c ∈ cs, -9223372036854775808 ≤ c ∧ c ≤ 9223372036854775807
  h1 : H.length ≤ ch
  h2 : ch ≤ 9223372036854775807
  l1 : L.length ≤ cl
  l2 : cl ≤ 9223372036854775807
  ai : AtI w ai cs
  ah : At w ah H
  al : At w al L
theorem Ar.below {w w' : World} {n : Int} {cs : List Int} {H L : List (List UInt8)} {ai ah al : Option Addr} {ch cl : Nat} (h : Ar w n cs H L ai ah al ch cl) (hb : Below w.heap.size w w') : Ar w' n cs H L ai ah al ch cl :=
  ⟨h.lc, h.ic, h.h1, h.h2, h.l1, h.l2, h.ai.below hb (Nat.le_refl _), h.ah.below hb (Nat.le_refl _), h.al.below hb (Nat.le_refl _)⟩
section
variable {w : World} {n : Int} {cs : List Int} {H L : List (List UInt8)} {ai ah al : Option Addr} {ch cl : Nat} {t : List UInt8} {ps : List (List (List UInt8))}
theorem root12_an (A : Ar w n cs H L ai ah al ch cl) (a : An n cs H L t ps) (T : Tabs w) (ci : Nat) :
    Calls Tryz.prog 19 #[bt n (.slice ai cs.length ci) (.slice ah H.length ch), .slice al L.length cl] w fun r w' => r = .returned (.tuple #[sv t, .int .i64 (knE n cs H L)]) ∧ Below w.heap.size w w' := by
  have q1 := A.h1
  have q2 := A.h2
  have q3 := A.l1
  have q4 := A.l2
  by_cases h : knE n cs H L = 0
  · obtain ⟨m, is, val, rfl, rfl, hb, V, x1, x2, rfl, rfl⟩ := a.ok h
    rw [h]
    have := root12_ok m is H L val V hb x1 x2 ai ah al ci ch cl w T A.ai A.ah A.al
    rw [← ix_len is] at this
    exact this.mono fun r w' ⟨g1, _, g3⟩ => ⟨g1, g3⟩
  · rw [(a.bad h).1]
    exact root12_bad n cs H L ai ah al ci ch cl w A.lc (by omega) (by omega) A.ai A.ah A.al h
theorem rroot12_an (A : Ar w n cs H L ai ah al ch cl) (a : An n cs H L t ps) (ci : Nat) :
    Calls Tryz.prog 20 #[bt n (.slice ai cs.length ci) (.slice ah H.length ch), .slice al L.length cl] w fun r w' => r = .returned (.tuple #[sv t, .int .i64 (knE n cs H L)]) ∧ Below w.heap.size w w' := by
  have q1 := A.h1
  have q2 := A.h2
  have q3 := A.l1
  have q4 := A.l2
  by_cases h : knE n cs H L = 0
  · obtain ⟨m, is, val, rfl, rfl, hb, V, x1, x2, rfl, rfl⟩ := a.ok h
    rw [h]
    have := rroot12_ok m is H L val V hb x1 x2 ai ah al ci ch cl w q1 q2 q3 q4 A.ai A.ah A.al
    rw [← ix_len is] at this
    exact this
  · rw [(a.bad h).1]
    exact rroot12_bad n cs H L ai ah al ci ch cl w A.lc A.ic (by omega) (by omega) A.ai A.ah A.al h
theorem expand12_an (A : Ar w n cs H L ai ah al ch cl) (a : An n cs H L t ps) (T : Tabs w) (ci : Nat) :
    Calls Tryz.prog 14 #[bt n (.slice ai cs.length ci) (.slice ah H.length ch), .slice al L.length cl] w fun r w' => ∃ v, r = .returned (.tuple #[v, .int .i64 (knE n cs H L)]) ∧ LL w.heap.size w' v ps ∧ Below w.heap.size w w' := by
  have q1 := A.h1
  have q2 := A.h2
  have q3 := A.l1
  have q4 := A.l2
  by_cases h : knE n cs H L = 0
  · obtain ⟨m, is, val, rfl, rfl, hb, V, x1, x2, rfl, rfl⟩ := a.ok h
    rw [h]
    have := expand12_ok m is H L val V hb x1 x2 ai ah al ci ch cl w T A.ai A.ah A.al
    rw [← ix_len is] at this
    have n2 := hb.n2
    have l2 := hb.l2
    rw [ix_len] at l2
    exact this.mono fun r w' hE => hE.ll (fun p hp => Nat.le_trans (paths_len p hp) (by omega)) (by unfold paths; rw [List.length_map]; omega)
  · rw [(a.bad h).2]
    exact (expand12_bad n cs H L ai ah al ci ch cl w A.lc (by omega) (by omega) A.ai A.ah A.al h).mono fun r w' ⟨g1, g2⟩ => ⟨_, g1, LL.nil_at _ g2.size, g2⟩
theorem rexpand12_an (A : Ar w n cs H L ai ah al ch cl) (a : An n cs H L t ps) (ci : Nat) :
    Calls Tryz.prog 21 #[bt n (.slice ai cs.length ci) (.slice ah H.length ch), .slice al L.length cl] w fun r w' => ∃ v, r = .returned (.tuple #[v, .int .i64 (knE n cs H L)]) ∧ LL w.heap.size w' v ps ∧ Below w.heap.size w w' := by
  have q1 := A.h1
  have q2 := A.h2
  have q3 := A.l1
  have q4 := A.l2
  by_cases h : knE n cs H L = 0
  · obtain ⟨m, is, val, rfl, rfl, hb, V, x1, x2, rfl, rfl⟩ := a.ok h
    rw [h]
    have := rexpand12_ok m is H L val V hb x1 x2 ai ah al ci ch cl w q1 q2 q3 q4 A.ai A.ah A.al
    rw [← ix_len is] at this
    exact this
  · rw [(a.bad h).2]
    exact (rexpand12_bad n cs H L ai ah al ci ch cl w A.lc A.ic (by omega) (by omega) A.ai A.ah A.al h).mono fun r w' ⟨g1, g2⟩ => ⟨_, g1, LL.nil_at _ g2.size, g2⟩
def ckE (n : Int) (cs : List Int) (H L : List (List UInt8)) (t root : List UInt8) : Int := if knE n cs H L = 0 then (if t = root then 0 else 123) else knE n cs H L
theorem check12_an (A : Ar w n cs H L ai ah al ch cl) (a : An n cs H L t ps) (T : Tabs w) (ci : Nat) (root : List UInt8) :
    Calls Tryz.prog 16 #[bt n (.slice ai cs.length ci) (.slice ah H.length ch), .slice al L.length cl, sv root] w fun r w' => r = .returned (.int .i64 (ckE n cs H L t root)) ∧ Below w.heap.size w w' :=
  check12_any n H L cs.length ai ah al ci ch cl t root _ _ w (fun _ hb => root12_an (A.below hb) a (T.below hb T.lt) ci) rfl
theorem rcheck12_an (A : Ar w n cs H L ai ah al ch cl) (a : An n cs H L t ps) (ci : Nat) (root : List UInt8) :
    Calls Tryz.prog 23 #[bt n (.slice ai cs.length ci) (.slice ah H.length ch), .slice al L.length cl, sv root] w fun r w' => r = .returned (.int .i64 (ckE n cs H L t root)) ∧ Below w.heap.size w w' :=
  rcheck12_any n H L cs.length ai ah al ci ch cl t root _ _ w (fun _ hb => rroot12_an (A.below hb) a ci) rfl
end
end Bat
end Go.Proofs.YtbodgecbakcaaaaGreatDoor

namespace Go.Proofs.YtbodgecbakcaaaaGreatDoor
open Go.RowKit Go.Shelf
namespace Bat
theorem oth302 : Tree.othF 3 0 3 [0, 2] = [(1, 2)] := by decide
theorem pth32 : Tree.pthF 3 0 3 2 = [(0, 2)] := by decide
theorem bat302 : BatOk ((3 : Nat) : Int) (ix [0, 2]) := ⟨by decide, by decide, by decide, by decide, by decide, by decide, by decide, by decide, by decide⟩
theorem bat302' : batchL 3 [0, 2] = [(1, 2)] := by
  have hE := batchE_ok bat302
  have : batchL ((3 : Nat) : Int) (ix [0, 2]) = Tree.othF 3 0 3 [0, 2] := by unfold batchL; rw [if_pos hE]; rfl
  rw [oth302] at this
  exact this
theorem tol302 : tolE 3 [0, 2] = 0 := tolE_zero.2 (batchE_ok bat302)
theorem atI_two (w : World) (x y : Int) : AtI (w.alloc (.cells #[.int .i64 x, .int .i64 y] 3)) (some ⟨w.heap.size, 0, none⟩) [x, y] := fun j p hp => by
  have h := heap_alloc_new w (.cells #[.int .i64 x, .int .i64 y] 3)
  refine ⟨_, rfl, lt_of_heap h, ?_⟩
  rw [Addr.add_mid, Nat.zero_add, cell_of_row _ _ _ _ _ _ h]
  match j, hp with
  | 0, hp => simp at hp; simp [hp]
  | 1, hp => simp at hp; simp [hp]
  | j + 2, hp => simp at hp
theorem at_three (w : World) (x y z : List UInt8) : At (w.alloc (.cells #[.string ⟨x.toArray⟩, .string ⟨y.toArray⟩, .string ⟨z.toArray⟩] 9)) (some ⟨w.heap.size, 0, none⟩) [x, y, z] := fun j p hp => by
  have h := heap_alloc_new w (.cells #[.string ⟨x.toArray⟩, .string ⟨y.toArray⟩, .string ⟨z.toArray⟩] 9)
  refine ⟨_, rfl, lt_of_heap h, ?_⟩
  rw [Addr.add_mid, Nat.zero_add, cell_of_row _ _ _ _ _ _ h]
  match j, hp with
  | 0, hp => simp at hp; subst hp; rfl
  | 1, hp => simp at hp; subst hp; rfl
  | 2, hp => simp at hp; subst hp; rfl
  | j + 3, hp => simp at hp
theorem at_two (w : World) (x z : List UInt8) : At (w.alloc (.cells #[.string ⟨x.toArray⟩, .string ⟨z.toArray⟩] 9)) (some ⟨w.heap.size, 0, none⟩) [x, z] := fun j p hp => by
  have h := heap_alloc_new w (.cells #[.string ⟨x.toArray⟩, .string ⟨z.toArray⟩] 9)
  refine ⟨_, rfl, lt_of_heap h, ?_⟩
  rw [Addr.add_mid, Nat.zero_add, cell_of_row _ _ _ _ _ _ h]
  match j, hp with
  | 0, hp => simp at hp; subst hp; rfl
  | 1, hp => simp at hp; subst hp; rfl
  | j + 2, hp => simp at hp
theorem tolH302 (x y z : List UInt8) : tolH [x, y, z] 3 [0, 2] = [y] := by unfold tolH; rw [oth302]; rfl
theorem fit302 (x y z : List UInt8) (val : Nat × Nat → List UInt8) (V : Val [0, 2] 3 [y] [x, z] val) : val (0, 3) = Tree.root [x, y, z] := by
  have F : Fit [0, 2] 3 [x, y, z] val := V.fit (by simp) (by decide) (by rw [oth302]; rfl) (fun k i h => by
    match k, h with
    | 0, h => simp at h; subst h; rfl
    | 1, h => simp at h; subst h; rfl
    | k + 2, h => simp at h)
  exact F.root (by decide)
set_option maxRecDepth 100000 in
set_option maxHeartbeats 1600000 in
theorem known12_any (w : World) (Z : Tb w) : Calls Tryz.prog 5 #[] w fun e w' => e = .returned (.bool true) ∧ Below w.heap.size w w' := by
  have i1 := fun w' => lleaf_at 1 (lf 1) rfl w'
  have i2 := fun w' => lleaf_at 2 (lf 2) rfl w'
  have i3 := fun w' => lleaf_at 3 (lf 3) rfl w'
  have hx := lf_length 1
  have hy := lf_length 2
  have hz := lf_length 3
  generalize lf 1 = x at *
  generalize lf 2 = y at *
  generalize lf 3 = z at *
  have HZ := hid Z
  have hT := Z.lt
  have H32 : Hid (x.length = 32 ∧ y.length = 32 ∧ z.length = 32) := ⟨hx, hy, hz⟩
  simp only [show sv x = .string ⟨x.toArray⟩ from rfl] at i1
  simp only [show sv y = .string ⟨y.toArray⟩ from rfl] at i2
  simp only [show sv z = .string ⟨z.toArray⟩ from rfl] at i3
  clear Z hx hy hz
  go_enter Tryz.func5, Tryz.ntmps5
  go_wp2_with (first
    | (go_at_call 10; (first
      | ((with_reducible refine (i1 _).mono ?_); rintro r w1 ⟨rfl, b1⟩)
      | ((with_reducible refine (i2 _).mono ?_); rintro r w2 ⟨rfl, b2⟩)
      | ((with_reducible refine (i3 _).mono ?_); rintro r w3 ⟨rfl, b3⟩)))
    | (go_at_call 11; fail))
  have B3 : Hid (Below w.heap.size w w3) := by
    have h2 := b1.trans (b2.mono b1.size)
    exact h2.trans (b3.mono h2.size)
  have ba3 := (Below.refl w3.heap.size w3).alloc (Nat.le_refl _) (.cells #[.string ⟨x.toArray⟩, .string ⟨y.toArray⟩, .string ⟨z.toArray⟩] 9)
  have B3' := hid (B3.out.trans (ba3.mono B3.out.size))
  have j4 := planted12_any 0 [x, y, z] (fun q hq => by
    have := H32.out
    simp only [List.mem_cons, List.not_mem_nil, or_false] at hq
    rcases hq with rfl | rfl | rfl
    · exact this.1
    · exact this.2.1
    · exact this.2.2) (by simp) (some ⟨w3.heap.size, 0, none⟩) 3 _ (by omega) (by omega) (at_three w3 x y z) (HZ.out.below B3'.out hT)
  rw [show ([x, y, z] : List (List UInt8)).length = 3 from rfl] at j4
  with_reducible refine j4.mono ?_
  rintro r w4 ⟨q, h, F, rfl, t4, _, b4⟩
  have B4 := hid (B3'.out.trans (b4.mono B3'.out.size))
  have T4 := hid t4
  clear j4 ba3 B3' B3 b1 b2 b3 b4 t4
  have ba4 := (Below.refl w4.heap.size w4).alloc (Nat.le_refl _) (.cells #[.int .i64 0, .int .i64 2] 3)
  have B4' := hid (B4.out.trans (ba4.mono B4.out.size))
  have j5 := prove12_ok (T4.out.below ba4) (HZ.out.below B4'.out hT) 3 [0, 2] bat302 (by simp) (some ⟨w4.heap.size, 0, none⟩) 2 (atI_two w4 0 2)
  rw [tolH302, show ([0, 2] : List Nat).length = 2 from rfl, show ((3 : Nat) : Int) = 3 from rfl] at j5
  clear ba4
  go_wp2_with (go_at_call 12; fail)
  with_reducible refine j5.mono ?_
  rintro r w5 ⟨vi, gh, rfl, o5, r5, _, _, b5⟩
  obtain ⟨va, vc, hvi, hat5, _, _⟩ := Own.atI o5
  subst hvi
  have B5 := hid (B4'.out.trans (b5.mono B4'.out.size))
  have T5 := hid (T4.out.below (((Below.refl w4.heap.size w4).alloc (Nat.le_refl _) (.cells #[.int .i64 0, .int .i64 2] 3)).trans (b5.mono (by rw [size_alloc]; omega))))
  have R5 := hid r5
  have A5 := hid hat5
  clear j5 o5 r5 b5 hat5 B4' T4 B4
  rw [show (ix [0, 2]).length = 2 from rfl, show ([y] : List (List UInt8)).length = 1 from rfl, show ((3 : Nat) : Int) = 3 from rfl]
  -- the batch's variable
  have ba5 := (Below.refl w5.heap.size w5).alloc (Nat.le_refl _) (.cells #[.int .i64 3, .slice va 2 vc, .slice (some ⟨gh, 0, none⟩) 1 1] 25)
  have S6 := hid (BtI.new w5 3 (.slice va 2 vc) (.slice (some ⟨gh, 0, none⟩) 1 1))
  have B6 := hid (B5.out.trans (ba5.mono B5.out.size))
  have T6 := hid (T5.out.below ba5)
  have R6 := hid (R5.out.below ba5 R5.out.lt)
  have A6 := hid (A5.out.below ba5 (Nat.le_refl _))
  have z6 : (w5.alloc (.cells #[.int .i64 3, .slice va 2 vc, .slice (some ⟨gh, 0, none⟩) 1 1] 25)).heap.size = w5.heap.size + 1 := by simp
  clear ba5 B5 T5 R5 A5
  go_upto_region 5 with fail
  generalize w5.alloc (.cells #[.int .i64 3, .slice va 2 vc, .slice (some ⟨gh, 0, none⟩) 1 1] 25) = w6 at *
  have ba6 := (Below.refl w6.heap.size w6).alloc (Nat.le_refl _) (.cells #[.int .i64 0, .int .i64 2] 3)
  have j7 := count12_any 3 [0, 2] (some ⟨w6.heap.size, 0, none⟩) 2 _ (by simp) (atI_two w6 0 2)
  rw [bat302', tol302, show ([0, 2] : List Int).length = 2 from rfl, z6] at j7
  go_wp2_with (go_at_call 13; fail)
  with_reducible refine j7.mono ?_
  rintro r w7 ⟨rfl, b7⟩
  have b67 := ba6.trans (b7.mono ba6.size)
  have S7 := hid (S6.out.below b67)
  have B7 := hid (B6.out.trans (b67.mono B6.out.size))
  have T7 := hid (T6.out.below b67)
  have R7 := hid (R6.out.below b67 R6.out.lt)
  have A7 := hid (A6.out.below b67 (Nat.le_refl _))
  clear j7 b7 ba6 b67 S6 B6 T6 R6 A6
  rw [show ((([(1, 2)] : List (Nat × Nat)).length : Nat) : Int) = 1 from rfl]
  go_upto_region 6 with fail
  obtain ⟨val, V⟩ := val_is [0, 2] 3 [y] [x, z] (by omega) (by decide) (by rw [oth302]; rfl) rfl
  have hv03 := hid (fit302 x y z val V)
  have hy8 : hsB8 [y] = true := by simp [hsB8, H32.out.2.1]
  have hx8 : hsB8 [x, z] = true := by simp [hsB8, H32.out.1, H32.out.2.2]
  have jE := fun w' (hb : Below w7.heap.size w7 w') => expand12_ok 3 [0, 2] [y] [x, z] val V bat302 hy8 hx8 va (some ⟨gh, 0, none⟩) (some ⟨w'.heap.size, 0, none⟩) vc 1 2 (w'.alloc (.cells #[.string ⟨x.toArray⟩, .string ⟨z.toArray⟩] 9)) ((HZ.out.below (B7.out.trans ((hb.alloc (by have := hb.size; omega) _).mono B7.out.size)) hT).t) (A7.out.below (hb.alloc hb.size _) (Nat.le_refl _)) (R7.out.at.below (hb.alloc hb.size _) (Nat.le_refl _)) (at_two w' x z)
  simp only [show ([0, 2] : List Nat).length = 2 from rfl, show ((3 : Nat) : Int) = 3 from rfl, show ([y] : List (List UInt8)).length = 1 from rfl, show ([x, z] : List (List UInt8)).length = 2 from rfl] at jE
  have mkS : ∀ w', Below w7.heap.size w7 w' → w'.cell? ⟨w5.heap.size, 0, none⟩ = some (.int .i64 3) ∧ w'.cell? ⟨w5.heap.size, 1, none⟩ = some (.slice va 2 vc) ∧ w'.cell? ⟨w5.heap.size, 2, none⟩ = some (.slice (some ⟨gh, 0, none⟩) 1 1) := fun w' hb => ⟨(S7.out.below hb).c0, (S7.out.below hb).c1, (S7.out.below hb).c2⟩
  have e7 := mkS w7.drew (Below.refl _ w7).drew
  go_region_held3 (fun w' => w'.cell? ⟨w5.heap.size, 0, none⟩ = some (.int .i64 3) ∧ w'.cell? ⟨w5.heap.size, 1, none⟩ = some (.slice va 2 vc) ∧ w'.cell? ⟨w5.heap.size, 2, none⟩ = some (.slice (some ⟨gh, 0, none⟩) 1 1)) (first | exact e10 | exact e9a | exact e9 | exact e8 | exact e7)
    (first
      | (go_at_call 10; (first
        | ((with_reducible refine (i1 _).mono ?_); rintro r w8 ⟨rfl, b8'⟩; have b8 := drewBelow8 b8'; have e8 := mkS w8 b8)
        | ((with_reducible refine (i3 _).mono ?_); rintro r w9 ⟨rfl, b9'⟩; have b9 := b8.trans (b9'.mono b8.size); have e9 := mkS w9 b9; have b9a := b9.alloc b9.size (.cells #[.string ⟨x.toArray⟩, .string ⟨z.toArray⟩] 9); have e9a := mkS _ b9a; have j10 := jE w9 b9)))
      | (go_at_call 14; (with_reducible refine j10.mono ?_); rintro r w10 ⟨G, gs, rfl, RV, gl, LS, _, b10'⟩; have b10 := b9a.trans (b10'.mono b9a.size); have e10 := mkS w10 b10))
  rw [show (paths [0, 2] 3 val).length = 2 from rfl] at gl ⊢
  obtain ⟨g0, g1, rfl⟩ : ∃ g0 g1, gs = [g0, g1] := by
    match gs, gl with
    | [a, b], _ => exact ⟨a, b, rfl⟩
  have cG : w10.cell? ⟨G, 1, none⟩ = some (.slice (some ⟨g1, 0, none⟩) 1 1) := RV.cell (by
    show some (lst g1 ((Tree.pthF 3 0 3 2).map val)) = _
    rw [pth32]; rfl)
  have hGl := RV.lt
  have B10 := hid (B7.out.trans (b10.mono B7.out.size))
  have S10 := hid (S7.out.below b10)
  have T10 := hid (T7.out.below b10)
  have R10 := hid (R7.out.below b10 R7.out.lt)
  have A10 := hid (A7.out.below b10 (Nat.le_refl _))
  have CG := hid cG
  clear mkS e7 e8 e9 e9a e10 b8 b8' b9 b9' b9a b10 b10' jE j10 RV LS B7 S7 T7 R7 A7 cG
  have jR := tRoot_any T10.out 3 (HZ.out.below B10.out hT) (show Hid (tPartO [x, y, z] 0 3 = (Tree.root [x, y, z], 0)) from tPartO_all)
  rw [show sv (Tree.root [x, y, z]) = Value.string ⟨(Tree.root [x, y, z]).toArray⟩ from rfl] at jR
  have mkC := fun w' (hb : Below w10.heap.size w10 w') => check12_any 3 [y] [x, z] 2 va (some ⟨gh, 0, none⟩) (some ⟨w'.heap.size, 0, none⟩) vc 1 2 (val (0, 3)) (Tree.root [x, y, z]) 0 0 (w'.alloc (.cells #[.string ⟨x.toArray⟩, .string ⟨z.toArray⟩] 9)) (fun w'' hb' => by
    have hbb := (hb.alloc hb.size (.cells #[.string ⟨x.toArray⟩, .string ⟨z.toArray⟩] 9)).trans (hb'.mono (by have := hb.size; rw [size_alloc]; omega))
    have := root12_ok 3 [0, 2] [y] [x, z] val V bat302 hy8 hx8 va (some ⟨gh, 0, none⟩) (some ⟨w'.heap.size, 0, none⟩) vc 1 2 w'' ((HZ.out.below (B10.out.trans (hbb.mono B10.out.size)) hT).t) (A10.out.below hbb (Nat.le_refl _)) (R10.out.at.below hbb (Nat.le_refl _)) ((at_two w' x z).below hb' (Nat.le_refl _))
    exact this.mono fun r w3 h => ⟨h.1, h.2.2⟩) (by rw [if_pos rfl, if_pos hv03.out])
  simp only [show ([y] : List (List UInt8)).length = 1 from rfl, show ([x, z] : List (List UInt8)).length = 2 from rfl, show sv (Tree.root [x, y, z]) = Value.string ⟨(Tree.root [x, y, z]).toArray⟩ from rfl] at mkC
  generalize Tree.root [x, y, z] = rr at *
  clear V hv03 hy8 hx8
  go_wp2_with (go_at_call 15; fail)
  with_reducible refine jR.mono ?_
  rintro r w11 ⟨rfl, b11⟩
  have hyy : ((ByteArray.mk y.toArray).toList == (ByteArray.mk y.toArray).toList) = true := by simp
  have mkS : ∀ w', Below w11.heap.size w11 w' → w'.cell? ⟨w5.heap.size, 0, none⟩ = some (.int .i64 3) ∧ w'.cell? ⟨w5.heap.size, 1, none⟩ = some (.slice va 2 vc) ∧ w'.cell? ⟨w5.heap.size, 2, none⟩ = some (.slice (some ⟨gh, 0, none⟩) 1 1) ∧ w'.cell? ⟨gh, 0, none⟩ = some (.string ⟨y.toArray⟩) ∧ w'.cell? ⟨G, 1, none⟩ = some (.slice (some ⟨g1, 0, none⟩) 1 1) := fun w' hb => by
    have hbb := b11.trans (hb.mono b11.size)
    have S' := S10.out.below hbb
    have R' := R10.out.below hbb R10.out.lt
    exact ⟨S'.c0, S'.c1, S'.c2, R'.cell (j := 0) rfl, (hbb.cell (p := ⟨G, 1, none⟩) hGl).trans CG.out⟩
  have e11 := mkS w11.drew (Below.refl _ w11).drew
  go_upto_region 8 with fail
  go_region_held3 (fun w' => w'.cell? ⟨w5.heap.size, 0, none⟩ = some (.int .i64 3) ∧ w'.cell? ⟨w5.heap.size, 1, none⟩ = some (.slice va 2 vc) ∧ w'.cell? ⟨w5.heap.size, 2, none⟩ = some (.slice (some ⟨gh, 0, none⟩) 1 1) ∧ w'.cell? ⟨gh, 0, none⟩ = some (.string ⟨y.toArray⟩) ∧ w'.cell? ⟨G, 1, none⟩ = some (.slice (some ⟨g1, 0, none⟩) 1 1)) (first | exact e15 | exact e14a | exact e14 | exact e13 | exact e12 | exact e11)
    (first
      | (go_at_call 10; (first
        | ((with_reducible refine (i2 _).mono ?_); rintro r w12 ⟨rfl, b12'⟩; have b12 := drewBelow8 b12'; have e12 := mkS w12 b12)
        | ((with_reducible refine (i1 _).mono ?_); rintro r w13 ⟨rfl, b13'⟩; have b13 := b12.trans (b13'.mono b12.size); have e13 := mkS w13 b13)
        | ((with_reducible refine (i3 _).mono ?_); rintro r w14 ⟨rfl, b14'⟩; have b14 := b13.trans (b14'.mono b13.size); have e14 := mkS w14 b14; have b14a := b14.alloc b14.size (.cells #[.string ⟨x.toArray⟩, .string ⟨z.toArray⟩] 9); have e14a := mkS _ b14a; have j15 := mkC w14 (b11.trans (b14.mono b11.size)))))
      | (go_at_call 16; (with_reducible refine j15.mono ?_); rintro r w15 ⟨rfl, b15'⟩; have b15 := b14a.trans (b15'.mono b14a.size); have e15 := mkS w15 b15))
  all_goals
    have BE := hid (B10.out.trans ((b11.trans (b15.mono b11.size)).mono B10.out.size))
    clear mkS mkC e11 e12 e13 e14 e14a e15 j15 b15 b15'
    go_wp2
    go_ret
    exact ⟨rfl, BE.out⟩
end Bat
end Go.Proofs.YtbodgecbakcaaaaGreatDoor

namespace Go.Proofs.YtbodgecbakcaaaaGreatDoor
open Go.RowKit
def spare : List UInt8 := [115, 112, 97, 114, 101]
theorem spare_sv : sv spare = .string ⟨#[115, 112, 97, 114, 101]⟩ := rfl
def behind (j : Nat) : List (List UInt8) := List.replicate j spare ++ List.replicate (8 - j) []
theorem behind_len (j : Nat) (h : j ≤ 8) : (behind j).length = 8 := by simp [behind]; omega
theorem behind_set : ∀ j : Fin 8, (behind j.val).set j.val spare = behind (j.val + 1) := by decide
theorem behind_get : ∀ j : Fin 8, (behind 8)[j.val]? = some spare := by decide
theorem behind_step (ps : List (List UInt8)) (j : Nat) (h : j < 8) : (ps ++ behind j).set (ps.length + j) spare = ps ++ behind (j + 1) := by
  rw [List.set_append_right _ _ (by omega), show ps.length + j - ps.length = j from by omega, behind_set ⟨j, h⟩]
set_option maxRecDepth 100000 in
set_option maxHeartbeats 1000000 in
theorem lent_any (ps : List (List UInt8)) (a : Option Addr) (cap : Nat) (w : World) (hn : ps.length ≤ 8796093021952) (hA : At w a ps) :
    Calls Tryz.prog 18 #[.slice a ps.length cap] w fun e w' => e = .returned (.slice (some ⟨w.heap.size, 0, none⟩) (ps.length + 8) (ps.length + 8)) ∧ Row w' w.heap.size (ps ++ behind 8) ∧ Below w.heap.size w w' := by
  have hmk := make_texts w (ps.length + 8) (by omega)
  have e8 : ((ps.length + 8 : Nat) : Int) = (ps.length : Int) + 8 := by omega
  rw [e8] at hmk
  have R1 : Row (w.alloc (.cells (svs (List.replicate (ps.length + 8) [])).toArray 9)) w.heap.size (List.replicate ps.length [] ++ List.replicate 8 []) := by
    rw [List.replicate_append_replicate]; exact heap_alloc_new w _
  have hb1 := (Below.refl w.heap.size w).alloc (Nat.le_refl _) (.cells (svs (List.replicate (ps.length + 8) [])).toArray 9)
  obtain ⟨w2, hcp, hR2, hb2⟩ := copy_texts _ w.heap.size a cap ps (List.replicate 8 []) (hA.below hb1 (Nat.le_refl _)) R1 (ps.length + 8) (ps.length + 8) (by simp)
  have B2 : Below w.heap.size w w2 := hb1.trans (hb2.below (Nat.le_refl _) (by rw [size_alloc]; omega))
  have HR2 := hid hR2
  have HB2 := hid B2
  clear hR2 B2 R1 hb2 hb1 hA
  generalize w.alloc (.cells (svs (List.replicate (ps.length + 8) [])).toArray 9) = w1 at *
  obtain ⟨n, hpn⟩ : ∃ n, ps.length = n := ⟨_, rfl⟩
  rw [hpn] at hmk hcp hn ⊢
  go_enter Tryz.func18, Tryz.ntmps18
  go_wp2
  clear hcp hmk
  go_loopw [4] (fun i w' => ∃ j : Nat, j ≤ 8 ∧ i = .int .i64 ((n : Int) + (j : Int)) ∧ Hid (Row w' w.heap.size (ps ++ behind j)) ∧ Hid (Below w.heap.size w w')) (fun i _ => n + 8 - (intOf i).toNat)
  case atStart => exact ⟨0, by omega, by simp, HR2, HB2⟩
  case round =>
    clear HR2 HB2
    obtain ⟨j, hj, rfl, hR, hB⟩ := hrel
    by_cases hlt : j < 8
    · have b0 : (n : Int) + (j : Int) < (n : Int) + 8 := by omega
      have b1 : (0 : Int) ≤ (n : Int) + (j : Int) := by omega
      have t1 : ((n : Int) + (j : Int)).toNat = n + j := by omega
      have hl : (ps ++ behind j).length = n + 8 := by rw [List.length_append, behind_len j (by omega), hpn]
      have cp := hR.out.cell (List.getElem?_eq_getElem (show n + j < (ps ++ behind j).length by omega))
      have fz := hR.out.free (show n + j < (ps ++ behind j).length by omega)
      have R' := hR.out.set (n + j) spare
      rw [← hpn, behind_step ps j hlt, hpn] at R'
      have B' := hid (hB.out.setCell (p := ⟨w.heap.size, n + j, none⟩) (Nat.le_refl _) (sv spare))
      rw [spare_sv] at R' B'
      have R'' := hid R'
      clear R' hR hB
      go_wp2
      exact ⟨⟨j + 1, by omega, by rw [show (n : Int) + (j : Int) + 1 = (n : Int) + ((j + 1 : Nat) : Int) from by omega], R'', B'⟩, by simp [intOf]; omega⟩
    · obtain rfl : j = 8 := by omega
      have b0 : ¬ (n : Int) + ((8 : Nat) : Int) < (n : Int) + 8 := by omega
      go_wp2
      go_ret
      exact ⟨rfl, hR.out, hB.out⟩
set_option maxRecDepth 100000 in
set_option maxHeartbeats 1000000 in
theorem kept_yes (ps : List (List UInt8)) (H : Nat) (a : Option Addr) (cap : Nat) (w : World) (hn : ps.length ≤ 8796093021952) (hR : Row w H (ps ++ behind 8)) (hA : At w a ps) :
    Calls Tryz.prog 26 #[.slice (some ⟨H, 0, none⟩) (ps.length + 8) (ps.length + 8), .slice a ps.length cap] w fun e w' => e = .returned (.bool true) ∧ Below w.heap.size w w' ∧ w'.heap = w.heap := by
  have hA1 : At w (some ⟨H, 0, none⟩) ps := by
    have := hR.at.take ps.length
    rwa [List.take_left] at this
  have cS := same_yes ps (some ⟨H, 0, none⟩) a (ps.length + 8) cap w hA1 hA (by omega)
  have HR := hid hR
  obtain ⟨n, hpn⟩ : ∃ n, ps.length = n := ⟨_, rfl⟩
  rw [hpn] at cS hn ⊢
  clear hA hA1 hR
  have hnn : (n : Int) ≤ (n : Int) + 8 := by omega
  go_enter Tryz.func26, Tryz.ntmps26
  go_wp2
  go_loopw [5] (fun i w' => ∃ j : Nat, j ≤ 8 ∧ i = .int .i64 ((n : Int) + (j : Int)) ∧ w' = w) (fun i _ => n + 8 - (intOf i).toNat)
  case atStart => exact ⟨0, by omega, by simp, rfl⟩
  case round =>
    obtain ⟨j, hj, rfl, rfl⟩ := hrel
    by_cases hlt : j < 8
    · have b0 : (n : Int) + (j : Int) < (n : Int) + 8 := by omega
      have b1 : (0 : Int) ≤ (n : Int) + (j : Int) := by omega
      have t1 : ((n : Int) + (j : Int)).toNat = n + j := by omega
      have cp := HR.out.cell (j := n + j) (p := spare) (by
        rw [List.getElem?_append_right (by omega), hpn, show n + j - n = j from by omega]
        exact behind_get ⟨j, hlt⟩)
      rw [spare_sv] at cp
      go_wp2
      exact ⟨⟨j + 1, by omega, by rw [show (n : Int) + (j : Int) + 1 = (n : Int) + ((j + 1 : Nat) : Int) from by omega], trivial⟩, by simp [intOf]; omega⟩
    · obtain rfl : j = 8 := by omega
      have b0 : ¬ (n : Int) + ((8 : Nat) : Int) < (n : Int) + 8 := by omega
      go_wp2_with (go_at_call 24; refine cS.mono ?_; rintro e w9 ⟨rfl, hw9, hh9⟩)
      go_ret
      exact ⟨rfl, hw9, hh9⟩
end Go.Proofs.YtbodgecbakcaaaaGreatDoor
