import Derived.Test.YtjodbmbadhbblaaDoorCSL7
namespace Go.Proofs.YtjodbmbadhbblaaDoor
open Go.RowKit Go.Shelf
/-- what the document's lengths are, as closed facts of numbers -/
theorem lenOf_nat (N k : Nat) (h1 : k < N) (h2 : N ≤ 1099511627776) : lenOf (N : Int) (k : Int) = (((Tree.D N k).length : Int), 0) := by
  unfold lenOf
  rw [if_neg (by omega), if_neg (by omega), Int.toNat_natCast, Int.toNat_natCast]
theorem prfLen_nat (m N : Nat) (h0 : 1 ≤ m) (h1 : m ≤ N) (h2 : N ≤ 1099511627776) : prfLen (m : Int) (N : Int) = ((Tree.pl m N true : Int), 0) := by
  unfold prfLen
  rw [if_neg (by omega), Int.toNat_natCast, Int.toNat_natCast]
theorem D_le (N k : Nat) (h1 : k < N) (h2 : N ≤ 1099511627776) : (Tree.D N k).length ≤ 40 := by
  rw [Tree.D_U N N k (Nat.le_refl _) h1]
  exact Tree.U_len 40 _ _ (by omega)
theorem wit_whole {is : List Nat} {N : Nat} (h : ∀ i ∈ is, i < N) : Tree.wit is 0 (0 + N) = is := by
  unfold Tree.wit
  refine List.filter_eq_self.2 fun i hi => ?_
  have := h i hi
  exact decide_eq_true (by omega)
/-- a list of spans as the law reads it -/
abbrev pm (L : List (Nat × Nat)) : List (Int × Int) := L.map fun s => ((s.1 : Int), (s.2 : Int))
theorem path8_ans (N k dl : Nat) (h1 : k < N) (h2 : N ≤ 1099511627776) (hd : Hid ((Tree.D N k).length = dl)) (w : World) :
    Calls Tryd.prog 19 #[.int .i64 (N : Int), .int .i64 (k : Int)] w (Ans dl (pm (Tree.pthF N 0 N k)) w) := by
  have hE : pathE (N : Int) (k : Int) = 0 := by unfold pathE; rw [if_pos (by omega), if_pos (by omega)]
  have hL : pathL (N : Int) (k : Int) = Tree.pthF N 0 N k := by unfold pathL; rw [if_pos hE, Int.toNat_natCast, Int.toNat_natCast]
  refine (path8_any (N : Int) (k : Int) w).mono fun r w' h => h.ans hE ?_ (by rw [hL])
  rw [hL, Tree.pthF_len N 0 N k (Nat.le_refl _) (Nat.zero_le _), Nat.sub_zero, hd.out]
theorem proof8_ans (m N pl : Nat) (h0 : 1 ≤ m) (h1 : m ≤ N) (h2 : N ≤ 1099511627776) (hd : Hid (Tree.pl m N true = pl)) (w : World) :
    Calls Tryd.prog 20 #[.int .i64 (m : Int), .int .i64 (N : Int)] w (Ans pl (pm (Tree.prfF N 0 N m)) w) := by
  have hE : proofE (m : Int) (N : Int) = 0 := by unfold proofE; rw [if_pos (by omega)]
  have hL : proofL (m : Int) (N : Int) = Tree.prfF N 0 N m := by unfold proofL; rw [if_pos hE, Int.toNat_natCast, Int.toNat_natCast]
  refine (proof8_any (m : Int) (N : Int) w).mono fun r w' h => h.ans hE ?_ (by rw [hL])
  rw [hL, Tree.prfF_len N 0 N m (Nat.le_refl _) (by omega) (by omega), Nat.sub_zero]
  exact hd.out
theorem batch8_ans (N bl : Nat) (l : List Int) (h : BatOk (N : Int) l) (a : Option Addr) (cap : Nat) (hb : Hid ((Tree.othF N 0 N (toN l)).length = bl)) (w : World) (hA : AtI w a l) :
    Calls Tryd.prog 21 #[.int .i64 (N : Int), .slice a l.length cap] w (Ans bl (pm (Tree.othF N 0 N (toN l))) w) := by
  have hE := batchE_ok h
  have hL : batchL (N : Int) l = Tree.othF N 0 N (toN l) := by unfold batchL; rw [if_pos hE, Int.toNat_natCast]
  exact (batch8_any (N : Int) l a cap w (by have := h.l2; omega) hA).mono fun r w' h => h.ans hE (by rw [hL, hb.out]) (by rw [hL])
theorem run8_ans (N x y rl : Nat) (h0 : x < y) (h1 : y ≤ N) (h2 : N ≤ 1099511627776) (hd : Hid ((Tree.runF N 0 N x y).length = rl)) (w : World) :
    Calls Tryd.prog 25 #[.int .i64 (N : Int), sg x y] w (Ans rl (pm (Tree.runF N 0 N x y)) w) := by
  have hE : runE (N : Int) (x : Int) (y : Int) = 0 := by unfold runE; rw [if_pos (by omega), if_pos (by omega)]
  have hL : runL (N : Int) (x : Int) (y : Int) = Tree.runF N 0 N x y := by unfold runL; rw [if_pos hE, Int.toNat_natCast, Int.toNat_natCast, Int.toNat_natCast]
  exact (run8_any (N : Int) x y w).mono fun r w' h => h.ans hE (by rw [hL, hd.out]) (by rw [hL])
/-- H6 of a batch: how many spans -/
theorem bat_count {N : Nat} {l : List Int} (h : BatOk (N : Int) l) : (Tree.othF N 0 N (toN l)).length + l.length ≤ N ∧ (Tree.othF N 0 N (toN l)).length ≤ l.length * (Tree.D N 0).length := by
  have hN : 1 ≤ N := by have := h.n1; omega
  have hlt : ∀ i ∈ toN l, i < N := fun i hi => by have := h.lt i hi; rwa [Int.toNat_natCast] at this
  have hw := wit_whole hlt
  have hnd : (toN l).Nodup := h.sorted.imp fun {a b} hab => Nat.ne_of_lt hab
  have c1 := Tree.oth_count (toN l) hnd N 0 N (Nat.le_refl _) hN
  have c2 := Tree.oth_most (toN l) N 0 N (Nat.le_refl _) hN (Tree.tch_mem.2 (by
    have hl : 0 < (toN l).length := by rw [h.len]; exact h.l1
    exact ⟨(toN l)[0], List.getElem_mem hl, Nat.zero_le _, by have := hlt _ (List.getElem_mem hl); omega⟩))
  rw [hw, h.len] at c1 c2
  exact ⟨c1, c2⟩
theorem apart8_any (N bl : Nat) (l : List Int) (h : BatOk (N : Int) l) (al ar : Option Addr) (cl cr : Nat) (hb : Hid ((Tree.othF N 0 N (toN l)).length = bl)) (w : World) (h1 : AtP w al (pm (Tree.othF N 0 N (toN l)))) (h2 : AtI w ar l) :
    Calls Tryd.prog 24 #[.int .i64 (N : Int), .slice al bl cl, .slice ar l.length cr] w fun e w' => e = .returned (.bool true) ∧ Below w.heap.size w w' := by
  have hN : 1 ≤ N := by have := h.n1; omega
  have hN2 : N ≤ 1099511627776 := by have := h.n2; omega
  have hc := bat_count h
  have hi := h.ix
  have hA := Tree.othF_apart (toN l) N 0 N hN (Nat.le_refl _)
  rw [Nat.zero_add] at hA
  have := apart_any N _ (toN l) al ar cl cr hN2 (by omega) (by rw [h.len]; have := h.l2; omega) h.sorted (fun i hx => by have := h.lt i hx; rwa [Int.toNat_natCast] at this) hA w h1 (by rw [hi]; exact h2)
  rw [hb.out, h.len] at this
  exact this
end Go.Proofs.YtjodbmbadhbblaaDoor
