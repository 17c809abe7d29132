import Derived.Test.YtmpaliocfikifaaDoorCBP10
import Derived.Test.YtmpaliocfikifaaDoorCO25
import Derived.Test.YtmpaliocfikifaaDoorCO15
import Derived.Deep.CutRange
import Derived.Test.YtmpaliocfikifaaDoorCK3
import Derived.Test.YtmpaliocfikifaaDoorCO10
import Derived.Lib.SmallJoins
namespace Go.Proofs.YtmpaliocfikifaaDoor
open Go.RowKit Go.Shelf
namespace Bat
theorem batOk_of {n : Nat} {cs : List Int} (h1 : 1 ≤ n) (h2 : n ≤ 1099511627776) (hp : cs.Pairwise (· < ·)) (hi : ∀ x ∈ cs, 0 ≤ x ∧ x < (n : Int)) (hl : cs.length ≤ 256) (h0 : cs ≠ []) : BatOk (n : Int) cs := by
  have l1 : 0 < cs.length := List.length_pos_iff.2 h0
  have m0 := hi cs[0] (List.getElem_mem l1)
  have m1 := hi (cs[cs.length - 1]'(by omega)) (List.getElem_mem (by omega))
  exact ⟨by omega, by omega, l1, hl, hp, by rw [getD_at l1]; omega, by rw [getD_at l1]; omega, by rw [getD_at (by omega)]; omega, by rw [getD_at (by omega)]; omega⟩
theorem nums_len' (raw : List Int) : (nums raw 200).length ≤ 200 := by rw [nums_len]; omega
theorem wrg_zero {l : List (List UInt8)} (h : Tree.Hs l) (hl : l.length ≤ 4096) : wrg l = 0 := by
  rw [wrg, if_neg (by omega), if_pos]
  rw [List.all_eq_true]
  intro x hx
  simp [h x hx]
/-- the leaves that are wanted -/
def lvs (L : List (List UInt8)) (is : List Nat) : List (List UInt8) := is.map fun i => L.getD i []
theorem lvs_hs {L : List (List UInt8)} {is : List Nat} (hL : Tree.Hs L) (hi : ∀ i ∈ is, i < L.length) : Tree.Hs (lvs L is) := fun x hx => by
  obtain ⟨i, hm, rfl⟩ := List.mem_map.1 hx
  have := hi i hm
  simp only [List.getD, List.getElem?_eq_getElem this, Option.getD_some]
  exact hL _ (List.getElem_mem this)
theorem hsB_of {l : List (List UInt8)} (h : Tree.Hs l) : hsB8 l = true := by
  unfold hsB8
  rw [List.all_eq_true]
  intro x hx
  simp [h x hx]
theorem tolH_hs {L : List (List UInt8)} (hL : Tree.Hs L) (n : Nat) (is : List Nat) : Tree.Hs (tolH L n is) := fun x hx => by
  unfold tolH at hx
  obtain ⟨s, _, rfl⟩ := List.mem_map.1 hx
  exact Tree.root_hash fun t ht => hL t (List.mem_of_mem_take (List.mem_of_mem_drop ht))
/-- all that is said of a batch of a tree -/
structure Tol (L : List (List UInt8)) (n : Nat) (is : List Nat) (val : Nat × Nat → List UInt8) : Prop where
  V : Val is n (tolH L n is) (lvs L is) val
  bo : BatOk (n : Int) (ix is)
  h8 : hsB8 (tolH L n is) = true
  l8 : hsB8 (lvs L is) = true
  hm : tolH L n is = Tree.many is 0 (L.take n)
  r : val (0, n) = Tree.root (L.take n)
  p : ∀ i ∈ is, (Tree.pthF n 0 n i).map val = Tree.path i (L.take n)
  c1 : (tolH L n is).length + is.length ≤ n
  c2 : (tolH L n is).length ≤ is.length * Tree.dg (n - 1)
  lt : ∀ i ∈ is, i < n
theorem tol_is {L : List (List UInt8)} {n : Nat} {is : List Nat} (hL : Tree.Hs L) (hn : n ≤ L.length) (bo : BatOk (n : Int) (ix is)) : ∃ val, Tol L n is val := by
  have n1 := bo.n1
  have hlt : ∀ i ∈ is, i < n := fun i hi => by
    have := bo.all (i : Int) (List.mem_map.2 ⟨i, hi, rfl⟩)
    omega
  have hup : is.Pairwise (· < ·) := by
    have := bo.so
    unfold ix at this
    rw [List.pairwise_map] at this
    exact this.imp fun h => by omega
  have h0 : is ≠ [] := by
    intro e
    have := bo.l1
    rw [e] at this
    simp [ix] at this
  obtain ⟨val, V⟩ := val_is is n (tolH L n is) (lvs L is) (by omega) (hup.imp fun h => by omega) (by simp [tolH]) (by simp [lvs])
  have F : Fit is n L val := V.fit hn hlt rfl (fun k i h => by
    have := hlt i (List.mem_of_getElem? h)
    unfold lvs
    rw [List.getElem?_map, h, Option.map_some, List.getD, List.getElem?_eq_getElem (by omega)]
    rfl)
  have hc := told_few (by omega) hup hlt h0
  exact ⟨val, V, bo, hsB_of (tolH_hs hL n is), hsB_of (lvs_hs hL fun i hi => by have := hlt i hi; omega), many_told L (by omega) hn hlt, F.root (by omega), fun i hi => F.path hi (hlt i hi), by simp only [tolH, List.length_map]; exact hc.1, by simp only [tolH, List.length_map]; exact hc.2, hlt⟩
theorem batchL_is {n : Nat} {is : List Nat} (bo : BatOk (n : Int) (ix is)) : batchL (n : Int) (ix is) = Tree.othF n 0 n is := by
  have hto : toN (ix is) = is := by unfold toN ix; rw [List.map_map]; exact List.map_id'' (fun i => Int.toNat_natCast i) is
  unfold batchL
  rw [if_pos (batchE_ok bo), hto, Int.toNat_natCast]
theorem okI_of {n : Nat} {cs : List Int} (bo : BatOk (n : Int) cs) : OkI n cs :=
  ⟨bo.l1, bo.l2, fun j x h => by have := bo.all x (List.mem_of_getElem? h); omega, fun j x y h1 h2 => by
    obtain ⟨k1, e1⟩ := List.getElem?_eq_some_iff.1 h1
    obtain ⟨k2, e2⟩ := List.getElem?_eq_some_iff.1 h2
    have := List.pairwise_iff_getElem.1 bo.so j (j + 1) k1 k2 (by omega)
    omega⟩
theorem lvs_more {L : List (List UInt8)} {is : List Nat} {k : Nat} (hk : k < is.length) (hl : is[k] < L.length) : lvs L (is.take (k + 1)) = lvs L (is.take k) ++ [L[is[k]]] := by
  unfold lvs
  rw [List.take_add_one, List.getElem?_eq_getElem hk, List.map_append]
  simp [List.getD, hl]
theorem tol_empty (n : Int) (h1 : 1 ≤ n) (h2 : n ≤ 1099511627776) : tolE n [] = 120 := by
  have : batchE n [] = 83 := by unfold batchE; rw [if_pos ⟨h1, h2⟩]; simp
  unfold tolE
  rw [this]
  rfl
set_option maxRecDepth 100000 in
set_option maxHeartbeats 8000000 in
theorem tells12_any (raw which : List Int) (ht sz : Int) (a a3 : Option Addr) (ca c3 : Nat) (w : World) (h1 : -9223372036854775808 ≤ ht) (h2 : ht ≤ 9223372036854775807) (s1 : -9223372036854775808 ≤ sz) (s2 : sz ≤ 9223372036854775807) (hr : raw.length ≤ 9223372036854775807) (hw : which.length ≤ 9223372036854775807) (hin : ∀ c ∈ which, -9223372036854775808 ≤ c ∧ c ≤ 9223372036854775807) (hA : AtI w a raw) (hA3 : AtI w a3 which) (Z : Tb w) :
    Calls Tryd.prog 4 #[.slice a raw.length ca, .int .i64 ht, .int .i64 sz, .slice a3 which.length c3] w fun r w' => r = .returned (.bool true) ∧ Below w.heap.size w w' := by
  have i0 := known12_any w Z
  have HZ := hid Z
  have hT := Z.lt
  have HA := hid hA
  have HA3 := hid hA3
  have HIN := hid hin
  obtain ⟨mw, hmw⟩ : ∃ mw, which.length = mw := ⟨_, rfl⟩
  have HMW := hid hmw
  obtain ⟨mr, hmr⟩ : ∃ mr, raw.length = mr := ⟨_, rfl⟩
  have HMR := hid hmr
  have j2 := fun w' (hb : Below w.heap.size w w') => numbered_any raw 200 (by omega) a ca w' hr (HA.out.below hb (Nat.le_refl _))
  rw [hmr] at j2 ⊢
  rw [hmw]
  obtain ⟨L, hLL⟩ : ∃ L, nums raw 200 = L := ⟨_, rfl⟩
  have hL32 : Hid (Tree.Hs L) := by unfold Hid; rw [← hLL]; exact nums_hs raw 200
  have hl200 : L.length ≤ 200 := by rw [← hLL]; exact nums_len' raw
  rw [hLL] at j2
  simp only [show (((200 : Nat) : Int)) = 200 from rfl] at j2
  clear Z hA hA3 hin hLL hmw hmr
  go_enter Tryd.func4, Tryd.ntmps4
  go_wp2_with (go_at_call 5; fail)
  with_reducible refine i0.mono ?_
  rintro r w1 ⟨rfl, b1⟩
  have B1 := hid b1
  clear i0 b1
  have k2 := j2 w1 B1.out
  clear j2
  go_wp2_with (go_at_call 15; fail)
  with_reducible refine k2.mono ?_
  rintro r w2 ⟨v2, rfl, o2, b2⟩
  obtain ⟨al, cl, hv2, hal, hlc, hcm⟩ := Own.at o2
  subst hv2
  have B2 := hid (B1.out.trans (b2.mono B1.out.size))
  have AL2 := hid hal
  obtain ⟨k, hk⟩ : ∃ k, L.length = k := ⟨_, rfl⟩
  have HK := hid hk
  have j3 := planted12_any ht L hL32.out (by omega) al cl w2 h1 h2 hal (HZ.out.below B2.out hT)
  rw [hk] at j3 hl200 hlc ⊢
  clear k2 o2 b2 hal B1 hk
  go_wp2_with (go_at_call 16; fail)
  with_reducible refine j3.mono ?_
  rintro r w3 ⟨q, h, F, rfl, t3, _, b3⟩
  have B3 := hid (B2.out.trans (b3.mono B2.out.size))
  have AL3 := hid (AL2.out.below b3 (Nat.le_refl _))
  have TR3 := hid t3
  clear j3 t3 b3 B2 AL2
  by_cases hk0 : k = 0
  · subst hk0
    have q0 : (((0 : Nat) : Int) == 0) = true := rfl
    have e0 : prvE L.length 0 [] = 121 := by unfold prvE; rw [if_neg (by omega)]
    have j4 := prove12_bad TR3.out 0 [] none 0 (by simp) (AtI.nil _ _) (by rw [e0]; omega)
    rw [e0, show ([] : List Int).length = 0 from rfl] at j4
    go_wp2_with (go_at_call 17; (with_reducible refine j4.mono ?_); rintro r w4 ⟨rfl, b4⟩; have B4 := hid (B3.out.trans (b4.mono B3.out.size)))
    go_ret
    exact ⟨rfl, B4.out.alloc B4.out.size _⟩
  have q0 : ((k : Int) == 0) = false := by simp; omega
  obtain ⟨p, hp, hp'⟩ : ∃ p : Nat, pk sz k = (p : Int) ∧ p < k := ⟨(pk sz k).toNat, by have := pk_nonneg sz k (by omega); omega, by have := pk_lt sz k (by omega); have := pk_nonneg sz k (by omega); omega⟩
  have j5 := pick_any sz k s1 s2 (by omega) (by omega) w3
  rw [hp] at j5
  obtain ⟨n, hn⟩ : ∃ n : Nat, n = p + 1 := ⟨_, rfl⟩
  have hnw : IntKind.i64.wrap (1 + (p : Int)) = (n : Int) := by rw [IntKind.wrap_i64]; omega
  have hn1 : 1 ≤ n := by omega
  have hnk : n ≤ k := by omega
  clear hp hp' hn
  go_wp2_with (go_at_call 6; fail)
  with_reducible refine j5.mono ?_
  rintro r w4 ⟨rfl, h0⟩
  have h0 := h0.symm
  subst h0
  have j6 := rights12_any which n hn1 (by omega) a3 c3 w3 (by omega) HIN.out (HA3.out.below B3.out (Nat.le_refl _))
  rw [HMW.out] at j6
  obtain ⟨cs, hcs⟩ : ∃ cs, rgs (fun c => pk c n) which 20 = cs := ⟨_, rfl⟩
  have hup : Hid (cs.Pairwise (· < ·)) := by unfold Hid; rw [← hcs]; exact rgs_up _ _ _
  have hcl : cs.length ≤ 20 := by rw [← hcs]; exact rgs_len _ _ _
  have hci : Hid (∀ x ∈ cs, 0 ≤ x ∧ x < (n : Int)) := by unfold Hid; rw [← hcs]; exact rgs_in (fun c => ⟨pk_nonneg c n (by omega), pk_lt c n (by omega)⟩) 20
  rw [hcs] at j6
  clear j5 hcs
  go_wp2_with (go_at_call 7; fail)
  with_reducible refine j6.mono ?_
  rintro r w5 ⟨v5, rfl, o5, b5⟩
  obtain ⟨ai, ci, hv5, hai, hic, him⟩ := Own.atI o5
  subst hv5
  have B5 := hid (B3.out.trans (b5.mono B3.out.size))
  have AL5 := hid (AL3.out.below b5 (Nat.le_refl _))
  have TR5 := hid (TR3.out.below b5)
  clear B3 AL3 TR3
  have AI5 := hid hai
  clear j6 o5 b5 hai
  by_cases hc0 : cs = []
  · subst hc0
    have r0 : (((([] : List Int).length : Nat) : Int) == 0) = true := rfl
    have e0 : prvE L.length (n : Int) [] = 120 := by unfold prvE; rw [if_pos ⟨by omega, by rw [HK.out]; omega⟩]; exact tol_empty _ (by omega) (by omega)
    have j7 := prove12_bad TR5.out (n : Int) [] none 0 (by simp) (AtI.nil _ _) (by rw [e0]; omega)
    rw [e0] at j7
    simp only [show ([] : List Int).length = 0 from rfl] at j7 r0 ⊢
    go_wp2_with (go_at_call 17; (with_reducible refine j7.mono ?_); rintro r w6 ⟨rfl, b6⟩; have B6 := hid (B5.out.trans (b6.mono B5.out.size)))
    go_ret
    exact ⟨rfl, B6.out.alloc B6.out.size _⟩
  have bo := batOk_of hn1 (by omega) hup.out hci.out (by omega) hc0
  obtain ⟨is, his⟩ : ∃ is, cs = ix is := ⟨toN cs, bo.ix.symm⟩
  subst his
  obtain ⟨val, TO⟩ := tol_is hL32.out (by rw [HK.out]; exact hnk) bo
  have hil : (ix is).length = is.length := by simp [ix]
  rw [hil] at hcl hic ⊢
  have r0 : ((is.length : Int) == 0) = false := by
    have := bo.l1
    simp
    intro e
    rw [e] at this
    simp [ix] at this
  have HTO := hid TO
  have hHm := TO.hm
  have hc1 := TO.c1
  have hc2 := TO.c2
  clear TO
  have j7 := prove12_ok TR5.out (HZ.out.below B5.out hT) n is bo (by rw [HK.out]; exact hnk) ai ci AI5.out
  obtain ⟨H, hH⟩ : ∃ H, tolH L n is = H := ⟨_, rfl⟩
  rw [hH] at j7 hHm hc1 hc2
  have HH := hid hH
  clear hH hc0 bo hup hci
  go_wp2_with (go_at_call 17; fail)
  with_reducible refine j7.mono ?_
  rintro r w6 ⟨vi, gh, rfl, o6, r6, _, _, b6⟩
  obtain ⟨va, vc, hvi, hat6, hvl, hvm⟩ := Own.atI o6
  subst hvi
  rw [hil]
  have B6 := hid (B5.out.trans (b6.mono B5.out.size))
  have AL6 := hid (AL5.out.below b6 (Nat.le_refl _))
  have TR6 := hid (TR5.out.below b6)
  have AI6 := hid (AI5.out.below b6 (Nat.le_refl _))
  clear B5 AL5 TR5 AI5
  have BI6 := hid hat6
  have BH6 := hid r6
  clear j7 o6 r6 b6 hat6
  obtain ⟨hl, hhl⟩ : ∃ hl, H.length = hl := ⟨_, rfl⟩
  have HHL := hid hhl
  rw [hhl] at hc1 hc2 ⊢
  clear hhl
  -- the batch's variable
  have ba := (Below.refl w6.heap.size w6).alloc (Nat.le_refl _) (.cells #[.int .i64 (n : Int), .slice va is.length vc, .slice (some ⟨gh, 0, none⟩) hl hl] 31)
  have BT7 := hid (BtI.new w6 (n : Int) (.slice va is.length vc) (.slice (some ⟨gh, 0, none⟩) hl hl))
  have B7 := hid (B6.out.trans (ba.mono B6.out.size))
  have AL7 := hid (AL6.out.below ba (Nat.le_refl _))
  have TR7 := hid (TR6.out.below ba)
  have AI7 := hid (AI6.out.below ba (Nat.le_refl _))
  have BI7 := hid (BI6.out.below ba (Nat.le_refl _))
  have BH7 := hid (BH6.out.below ba BH6.out.lt)
  clear B6 AL6 TR6 AI6 BI6 BH6
  go_upto_region 15 with fail
  generalize w6.alloc (.cells #[.int .i64 (n : Int), .slice va is.length vc, .slice (some ⟨gh, 0, none⟩) hl hl] 31) = w7 at *
  clear ba
  obtain ⟨xl, rfl⟩ := AL7.out.pos (by rw [HK.out]; omega)
  have hLn : (L.take n).length = n := by rw [List.length_take, HK.out]; omega
  have hLh : Hid (Tree.Hs (L.take n)) := hL32.out.take n
  have hsl1 : (0 : Int) ≤ (n : Int) := by omega
  have hsl2 : (n : Int) ≤ (cl : Int) := by omega
  have hto : toN (ix is) = is := by unfold toN ix; rw [List.map_map]; exact List.map_id'' (fun i => Int.toNat_natCast i) is
  have j8 := Many_hs hLh.out (by omega) (ix is) (by rw [hLn]; exact okI_of HTO.out.bo) (some xl) ai cl ci w7 (by omega) hcm (AL7.out.take n) (HZ.out.below B7.out hT).t (by rw [hil]; exact hic) him AI7.out
  rw [hto, ← hHm, hLn, hil] at j8
  go_wp2_with (go_at_call 18; fail)
  with_reducible refine j8.mono ?_
  rintro r w8 ⟨v8, rfl, o8, b8⟩
  obtain ⟨wa, wc, hv8, hwa, hwl, hwm⟩ := Own.at o8
  subst hv8
  rw [HHL.out]
  have B8 := hid (B7.out.trans (b8.mono B7.out.size))
  have AL8 := hid (AL7.out.below b8 (Nat.le_refl _))
  have TR8 := hid (TR7.out.below b8)
  have AI8 := hid (AI7.out.below b8 (Nat.le_refl _))
  have BI8 := hid (BI7.out.below b8 (Nat.le_refl _))
  have BH8 := hid (BH7.out.below b8 BH7.out.lt)
  have BT8 := hid (BT7.out.below b8)
  clear B7 AL7 TR7 AI7 BI7 BH7 BT7
  have WA8 := hid hwa
  clear j8 o8 b8 hwa hto
  have j9 := count12_any (n : Int) (ix is) ai ci w8 (by omega) AI8.out
  rw [batchL_is HTO.out.bo, tolE_zero.2 (batchE_ok HTO.out.bo), hil, show (Tree.othF n 0 n is).length = hl by rw [← HHL.out, ← HH.out]; simp [tolH]] at j9
  go_wp2_with (go_at_call 8; fail)
  with_reducible refine j9.mono ?_
  rintro r w9 ⟨rfl, b9⟩
  have B9 := hid (B8.out.trans (b9.mono B8.out.size))
  have AL9 := hid (AL8.out.below b9 (Nat.le_refl _))
  have TR9 := hid (TR8.out.below b9)
  have AI9 := hid (AI8.out.below b9 (Nat.le_refl _))
  have BI9 := hid (BI8.out.below b9 (Nat.le_refl _))
  have BH9 := hid (BH8.out.below b9 BH8.out.lt)
  have BT9 := hid (BT8.out.below b9)
  have WA9 := hid (WA8.out.below b9 (Nat.le_refl _))
  clear B8 AL8 TR8 AI8 BI8 BH8 BT8 WA8
  clear j9 b9
  have hlt := hid HTO.out.lt
  go_wp2
  go_loopw [24, 25] (fun v i w' => ∃ j : Nat, j ≤ is.length ∧ i = .int .i64 (j : Int) ∧ Hid (Own w' w9.heap.size v (svs (lvs L (is.take j)))) ∧ Hid (Below w9.heap.size w9 w')) (fun _ i _ => is.length - (intOf i).toNat)
  case atStart => exact ⟨0, by omega, rfl, Own.nil _ _, Below.refl _ _⟩
  case round =>
    obtain ⟨j, hj, rfl, hO, hB⟩ := hrel
    by_cases hjm : j < is.length
    · have d0 : (j : Int) < (is.length : Int) := by omega
      have hjx : j < (ix is).length := by rw [hil]; exact hjm
      obtain ⟨xi, rfl, _, hci⟩ := (AI9.out.below hB.out (Nat.le_refl _)) j (ix is)[j] (List.getElem?_eq_getElem hjx)
      rw [show (ix is)[j] = ((is[j] : Nat) : Int) by simp [ix]] at hci
      have hlj := hlt.out is[j] (List.getElem_mem hjm)
      have hlL : is[j] < L.length := by rw [HK.out]; omega
      have hcl := (AL9.out.below hB.out (Nat.le_refl _)).cell is[j] hlL
      obtain ⟨_, _, _, hcl⟩ := (AL9.out.below hB.out (Nat.le_refl _)) is[j] L[is[j]] (List.getElem?_eq_getElem hlL)
      cases ‹some xl = some _›
      have hmr := hid (lvs_more hjm hlL)
      generalize L[is[j]] = y at *
      generalize is[j] = i at *
      rw [show sv y = Value.string ⟨y.toArray⟩ from rfl] at hcl
      obtain ⟨v3, w3', hap, hO3, hb3⟩ := append_text wr w9.heap.size _ (lvs L (is.take j)) y hO.out (by simp [lvs]; omega) hB.out.size
      rw [← hmr.out] at hO3
      rw [show sv y = Value.string ⟨y.toArray⟩ from rfl] at hap
      have O3 := hid hO3
      have B3' := hid (hB.out.trans hb3)
      have li : (i : Int) < (k : Int) := by omega
      have l0 : (0 : Int) ≤ (i : Int) := by omega
      have l1 : (0 : Int) ≤ (j : Int) := by omega
      clear hO hB hO3 hb3 hmr
      go_wp2_with (at_builtin; go_must (refine Lib.wpList_append_run _ rfl _ _ 29 29 rfl _ _ rfl rfl _ _ hap ?_))
      exact ⟨⟨j + 1, by omega, by go_num, O3, B3'⟩, by simp [intOf]; omega⟩
    · obtain rfl : j = is.length := by omega
      have d0 : ¬ (is.length : Int) < (is.length : Int) := by omega
      rw [List.take_length] at hO
      obtain ⟨la, lc, hlv, hla, hll, hlm⟩ := Own.at hO.out
      subst hlv
      have hlvl : (lvs L is).length = is.length := by simp [lvs]
      rw [hlvl] at hll ⊢
      obtain ⟨w10, hw10⟩ : ∃ w10, w10 = wr := ⟨_, rfl⟩
      subst hw10
      have B10 := hid (B9.out.trans (hB.out.mono B9.out.size))
      have AL10 := hid (AL9.out.below hB.out (Nat.le_refl _))
      have TR10 := hid (TR9.out.below hB.out)
      have AI10 := hid (AI9.out.below hB.out (Nat.le_refl _))
      have BI10 := hid (BI9.out.below hB.out (Nat.le_refl _))
      have BH10 := hid (BH9.out.below hB.out BH9.out.lt)
      have BT10 := hid (BT9.out.below hB.out)
      have WA10 := hid (WA9.out.below hB.out (Nat.le_refl _))
      clear B9 AL9 TR9 AI9 BI9 BH9 BT9 WA9
      have LV10 := hid hla
      clear hla hO hB
      have hV := HTO.out.V
      have h8 := HTO.out.h8
      have hR := hid HTO.out.r
      have hPs := hid HTO.out.p
      rw [HH.out] at hV h8
      have jR := fun w' (hb : Below w10.heap.size w10 w') => root12_ok n is H (lvs L is) val hV HTO.out.bo h8 HTO.out.l8 va (some ⟨gh, 0, none⟩) la vc hl lc w' (HZ.out.below (B10.out.trans (hb.mono B10.out.size)) hT).t (BI10.out.below hb (Nat.le_refl _)) (BH10.out.at.below hb (Nat.le_refl _)) (LV10.out.below hb (Nat.le_refl _))
      have jE := fun w' (hb : Below w10.heap.size w10 w') => expand12_ok n is H (lvs L is) val hV HTO.out.bo h8 HTO.out.l8 va (some ⟨gh, 0, none⟩) la vc hl lc w' (HZ.out.below (B10.out.trans (hb.mono B10.out.size)) hT).t (BI10.out.below hb (Nat.le_refl _)) (BH10.out.at.below hb (Nat.le_refl _)) (LV10.out.below hb (Nat.le_refl _))
      rw [HHL.out, hlvl, hR.out] at jR
      rw [HHL.out, hlvl] at jE
      have hro : rootOut (L.take n) = (Tree.root (L.take n), 0) := by unfold rootOut; rw [if_pos (wrg_zero hLh.out (by omega))]
      have jr := fun w' (hb : Below w10.heap.size w10 w') => Root_any (L.take n) (some xl) cl w' (by omega) hcm ((AL10.out.take n).below hb (Nat.le_refl _)) (HZ.out.below (B10.out.trans (hb.mono B10.out.size)) hT).t
      rw [hro, hLn] at jr
      have jc := fun w' (hb : Below w10.heap.size w10 w') => check12_any (n : Int) H (lvs L is) is.length va (some ⟨gh, 0, none⟩) la vc hl lc (Tree.root (L.take n)) (Tree.root (L.take n)) 0 0 w' (fun w'' hb' => by
        have := jR w'' (hb.trans (hb'.mono hb.size))
        rw [HHL.out, hlvl]
        exact this.mono fun r w3 h => ⟨h.1, h.2.2⟩) (by rw [if_pos rfl, if_pos rfl])
      rw [HHL.out, hlvl] at jc
      have R32 : Hid ((Tree.root (L.take n)).length = 32) := Tree.root_hash hLh.out
      generalize Tree.root (L.take n) = R at *
      rw [show sv R = Value.string ⟨R.toArray⟩ from rfl] at jR jr jc
      have e1 := str_eq12 R
      have u0 := BT10.out.c0
      have u1 := BT10.out.c1
      have u2 := BT10.out.c2
      have k11 := jR w10 (Below.refl _ _)
      clear hV h8 hro
      go_wp2_with (go_at_call 10; fail)
      with_reducible refine k11.mono ?_
      rintro r w11 ⟨rfl, _, b11⟩
      have C11 := hid b11
      have k12 := jr w11 b11
      have BT11 := hid (BT10.out.below b11)
      clear k11 b11 u0 u1 u2
      go_wp2_with (go_at_call 19; fail)
      with_reducible refine k12.mono ?_
      rintro r w12 ⟨rfl, b12⟩
      have C12 := hid (C11.out.trans (b12.mono C11.out.size))
      have BT12 := hid (BT11.out.below b12)
      have u0 := BT12.out.c0
      have u1 := BT12.out.c1
      have u2 := BT12.out.c2
      have k13 := jE w12 C12.out
      clear k12 b12 C11 BT11
      go_wp2_with (go_at_call 11; fail)
      with_reducible refine k13.mono ?_
      rintro r w13 ⟨G, gs, rfl, rv, hgs, ls, _, b13⟩
      have C13 := hid (C12.out.trans (b13.mono C12.out.size))
      have BT13 := hid (BT12.out.below b13)
      have RV13 := hid rv
      have LS13 := hid ls
      clear k13 b13 C12 BT12 u0 u1 u2 rv ls
      have hpl : (paths is n val).length = is.length := by simp [paths]
      rw [hpl] at hgs ⊢
      have hpa : Hid (∀ (j : Nat) (h : j < is.length), (paths is n val)[j]? = some (Tree.path is[j] (L.take n))) := fun j h => by
        unfold paths
        rw [List.getElem?_map, List.getElem?_eq_getElem h, Option.map_some, hPs.out is[j] (List.getElem_mem h)]
      have HGS := hid hgs
      have u2 := BT13.out.c2
      have k14 := same_yes H (some ⟨gh, 0, none⟩) wa hl wc w13 (BH10.out.at.below C13.out (Nat.le_refl _)) (WA10.out.below C13.out (Nat.le_refl _)) (by rw [HHL.out]; omega)
      rw [HHL.out] at k14
      clear hgs
      go_wp2_with (go_at_call 20; fail)
      with_reducible refine k14.mono ?_
      rintro r w14 ⟨rfl, b14, _⟩
      have C14 := hid (C13.out.trans (b14.mono C13.out.size))
      have BT14 := hid (BT13.out.below b14)
      have RV14 := hid (RV13.out.below b14 RV13.out.lt)
      have LS14 := hid (LS13.out.below b14)
      have n0 : ((hl : Int) != (hl : Int)) = false := by simp
      have n1 : ((is.length : Int) != (is.length : Int)) = false := by simp
      clear k14 b14 C13 BT13 RV13 LS13 u2
      go_wp2
      go_loopw [33, 34, 35, 36] (fun i _ _ _ w' => ∃ j : Nat, j ≤ is.length ∧ i = .int .i64 (j : Int) ∧ Hid (Below w14.heap.size w14 w')) (fun i _ _ _ _ => is.length - (intOf i).toNat)
      case atStart => exact ⟨0, by omega, rfl, Below.refl _ _⟩
      case round =>
        obtain ⟨j, hj, rfl, hB⟩ := hrel
        by_cases hjm : j < is.length
        · have d0 : (j : Int) < (is.length : Int) := by omega
          have hjx : j < (ix is).length := by rw [hil]; exact hjm
          have CB := hid (C14.out.trans (hB.out.mono C14.out.size))
          obtain ⟨xi, rfl, hxb, hci⟩ := (AI10.out.below CB.out (Nat.le_refl _)) j (ix is)[j] (List.getElem?_eq_getElem hjx)
          rw [show (ix is)[j] = ((is[j] : Nat) : Int) by simp [ix]] at hci
          have hlj := hlt.out is[j] (List.getElem_mem hjm)
          have hpj := hpa.out j hjm
          have kP := Path_any (L.take n) (is[j] : Int) (some xl) cl wr.drew (by omega) hcm ((AL10.out.take n).below (CB.out.trans ((Below.refl _ wr).drew.mono CB.out.size)) (Nat.le_refl _)) (HZ.out.below (B10.out.trans ((CB.out.trans ((Below.refl _ wr).drew.mono CB.out.size)).mono B10.out.size)) hT).t
          rw [show pathOut (L.take n) (is[j] : Int) = (Tree.path is[j] (L.take n), 0) by unfold pathOut; rw [if_pos (wrg_zero hLh.out (by omega)), if_pos ⟨by omega, by rw [hLn]; omega⟩, Int.toNat_natCast], hLn] at kP
          generalize Tree.path is[j] (L.take n) = P at *
          have hgj : j < gs.length := by rw [HGS.out]; exact hjm
          have rP := LS14.out.row j gs[j] P (List.getElem?_eq_getElem hgj) hpj
          have rvj := RV14.out.cell (j := j) (v := lst gs[j] P) (by rw [List.getElem?_zipWith, List.getElem?_eq_getElem hgj, hpj])
          have hgl := (LS14.out.ge gs[j] (List.getElem_mem hgj)).2
          generalize gs[j] = g at *
          generalize is[j] = i at *
          have RP := hid (rP.below hB.out hgl)
          have RC := hid ((hB.out.cell (p := ⟨G, j, none⟩) RV14.out.lt).trans rvj)
          have x0 : wr.drew.cell? (xi.add j) = some (.int .i64 (i : Int)) := hci
          have l1 : (0 : Int) ≤ (j : Int) := by omega
          clear rP rvj hpj
          go_wp2
          go_region_held3 (fun w' => w'.cell? (xi.add j) = some (.int .i64 (i : Int))) (first | exact x1 | exact x0) (first | (go_at_call 21; (with_reducible refine kP.mono ?_); rintro r w15 ⟨v15, rfl, o15, b15'⟩; have b15 := drewBelow8 b15'; have x1 : w15.cell? (xi.add j) = some (.int .i64 (i : Int)) := (b15.cell (by rw [addr_block]; exact hxb)).trans hci; obtain ⟨pa, pc, hv15, hpa', _, _⟩ := Own.at o15; subst hv15))
          have R15 := RP.out.below b15 RP.out.lt
          have c15 := (b15.cell (p := ⟨G, j, none⟩) (Nat.lt_of_lt_of_le RV14.out.lt hB.out.size)).trans RC.out
          unfold lst at c15
          have kS := same_yes P (some ⟨g, 0, none⟩) pa P.length pc w15 R15.at hpa' (by omega)
          have B15 := hid (hB.out.trans (b15.mono hB.out.size))
          clear x0 x1 o15 b15 b15' R15 hpa' RP RC kP
          go_wp2_with (go_at_call 20; (with_reducible refine kS.mono ?_); rintro r w16 ⟨rfl, b16, _⟩; have B16 := hid (B15.out.trans (b16.mono B15.out.size)))
          exact ⟨⟨j + 1, by omega, by go_num, B16⟩, by simp [intOf]; omega⟩
        · obtain rfl : j = is.length := by omega
          have d0 : ¬ (is.length : Int) < (is.length : Int) := by omega
          have CB := hid (C14.out.trans (hB.out.mono C14.out.size))
          have BT15 := hid (BT14.out.below hB.out)
          have u0 := BT15.out.c0
          have u1 := BT15.out.c1
          have u2 := BT15.out.c2
          have kC := jc wr CB.out
          have kD := fun w' => digits_any (n - 1) (by omega) w'
          have kD' := kD
          simp only [show ((n - 1 : Nat) : Int) = (n : Int) - 1 by omega] at kD'
          have hn1' : IntKind.i64.wrap ((n : Int) - 1) = ((n - 1 : Nat) : Int) := by rw [IntKind.wrap_i64]; omega
          have hn2' : IntKind.i64.wrap ((n : Int) - (is.length : Int)) = (n : Int) - (is.length : Int) := by rw [IntKind.wrap_i64]; omega
          have hle : (hl : Int) ≤ (n : Int) - (is.length : Int) := by omega
          have h20 : (2 : Nat) ^ 20 = 1048576 := by decide
          have hdg : Tree.dg (n - 1) ≤ 20 := Tree.dg_le (by omega)
          clear h20
          generalize Tree.dg (n - 1) = dd at *
          have hmb : is.length * dd ≤ 400 := by
            have := Nat.mul_le_mul (show is.length ≤ 20 by omega) hdg
            omega
          obtain ⟨X, hX⟩ : ∃ X : Nat, is.length * dd = X := ⟨_, rfl⟩
          have hmw : IntKind.i64.wrap ((is.length : Int) * (dd : Int)) = (X : Int) := by
            have hmu : (is.length : Int) * (dd : Int) = ((is.length * dd : Nat) : Int) := by simp
            rw [hmu, hX, IntKind.wrap_i64]; omega
          have hle2 : (hl : Int) ≤ (X : Int) := by omega
          clear hX hmb hc2 hc1
          have BE := hid (B10.out.trans (CB.out.mono B10.out.size))
          go_wp2_with (first
            | (go_at_call 22; (first | (with_reducible refine (kD _).mono ?_) | (with_reducible refine (kD' _).mono ?_)); rintro r w16 ⟨rfl, h0⟩; have h0 := h0.symm; subst h0)
            | (go_at_call 14; (with_reducible refine kC.mono ?_); rintro r w17 ⟨rfl, b17⟩; have BF := hid (BE.out.trans (b17.mono BE.out.size))))
          go_ret
          exact ⟨rfl, BF.out⟩
end Bat
end Go.Proofs.YtmpaliocfikifaaDoor

namespace Go.Proofs.YtmpaliocfikifaaDoor
open Go.ChangeShapes Go.WideShapes Go.ChangeAt Go.RowKit
theorem gDB : Tryd.prog.globalNamed "math/bits.deBruijn64tab" = some 1 := by kernel_rfl
theorem gDBType : (Tryd.prog.globals[1]?).map (·.type) = some 148 := by kernel_rfl
theorem cells64b : Tryd.prog.cellsOf 148 = 64 := by kernel_rfl
theorem cells1b : Tryd.prog.cellsOf 5 = 1 := by kernel_rfl
def four : List (String × DataW Unit) := [("math/bits.deBruijn32tab", Rows.laid_math_bits_deBruijn32tab), ("math/bits.deBruijn64tab", Rows.laid_math_bits_deBruijn64tab), ("scrivener/digest.start", Rows.laid_scrivener_digest_start), ("scrivener/digest.rounds", Rows.laid_scrivener_digest_rounds)]
theorem tb_of {W : World} (h : laidMet Tryd.prog four W) : Tb W := by
  have h1 := laidMet.tail h
  have h2 : Lib.TabIs Tryd.prog W "math/bits.deBruijn64tab" .u8 (Lib.deBruijn64tab.map Int.ofNat) :=
    Lib.tabIs_of_head gDB gDBType Tryd.underlying148 Tryd.underlying5 cells1b cells64b (show laidMet Tryd.prog (("math/bits.deBruijn64tab", Lib.tabData .u8 (Lib.deBruijn64tab.map Int.ofNat)) :: _) W from h1)
  refine ⟨tabs_of (laidMet.tail h1), fun j hj => ?_⟩
  have := h2.cell gDB j (by rw [List.length_map]; exact hj)
  rw [this]
  simp [List.getD_eq_getElem?_getD]
  rw [List.getElem?_eq_getElem (show j < Lib.deBruijn64tab.length from hj)]; simp
/-- A WORLD FOR THE WITNESS: all four tables laid. -/
noncomputable def laidWorld5 (os : Os) : World :=
  { laidWorld os with
    heap := ((laidWorld os).heap.modify 0 (fillObj (Lib.deBruijn32tab.map fun n => Value.int .u8 (Int.ofNat n)).toArray)).modify 1 (fillObj (Lib.deBruijn64tab.map fun n => Value.int .u8 (Int.ofNat n)).toArray) }
end Go.Proofs.YtmpaliocfikifaaDoor

namespace Go.Proofs.YtmpaliocfikifaaDoor
open Go.ChangeShapes Go.WideShapes Go.ChangeAt Go.RowKit
theorem bytesS : Tryd.prog.bytesOf 9 = 16 := by kernel_rfl
set_option maxRecDepth 100000 in
/-- a slice of texts among the arguments, by its weight -/
theorem open_atF {H : Type} {enc : TypeId × Value → H} {W : World} {base : Nat} {v : Value} {d : DataW H} {p : List MemPlace}
    (hval : Value.okWide Tryd.prog W .any base 29 v) (hd : DataW.Trod enc Tryd.prog W 0 (fun _ => true) true 29 v d p) (hk : ∀ x ∈ DataW.weights Tryd.prog 29 d, x ≤ reachBytes) :
    ∃ a l cap, v = .slice a l.length cap ∧ At W a l ∧ l.length ≤ cap ∧ cap ≤ 9223372036854775807 ∧ l.length ≤ 8796093021952 := by
  obtain ⟨a0, len0, cap0, rfl⟩ := okWide_slice Tryd.underlying29 hval
  obtain ⟨fuel, hf⟩ := hd
  rcases open_strings Tryd.underlying29 Tryd.underlying9 cellsS hf with ⟨hcs, hx⟩ | ⟨a, len, cap, ss, hcs, _, hl, hm, hz, hx, hcell, hsz⟩
  · simp [Value.cells] at hcs
    obtain ⟨rfl, rfl, rfl⟩ := hcs
    exact ⟨none, [], 0, rfl, At.nil _ _, by simp, by omega, by simp⟩
  · simp [Value.cells] at hcs
    obtain ⟨rfl, rfl, rfl⟩ := hcs
    simp only [Prod.mk.injEq] at hx
    obtain ⟨rfl, _⟩ := hx
    simp only [if_true] at hz
    have hlen : ((ss.take len0).map (·.data.toList)).length = len0 := by simp; omega
    have hw : cap0 * 16 ≤ reachBytes := by
      refine hk _ ?_
      rw [DataW.weights, Tryd.underlying29]
      simp only [bytesS]
      have e : (strs (H := H) (ss.take len0)).length + (strs (H := H) (ss.drop len0)).length = cap0 := by simp [strs]; omega
      rw [e]
      exact List.mem_cons_self
    have hr : reachBytes = 140737488351232 := rfl
    refine ⟨some a, (ss.take len0).map (·.data.toList), cap0, by rw [hlen], fun j p hp => ?_, by omega, hm, by omega⟩
    rw [List.getElem?_map, Option.map_eq_some_iff] at hp
    obtain ⟨s, hs, rfl⟩ := hp
    rw [List.getElem?_take] at hs
    split at hs
    · have hj := (List.getElem?_eq_some_iff.1 hs).1
      have hc := hcell j hj
      rw [List.getD_eq_getElem?_getD, hs] at hc
      refine ⟨a, rfl, ?_, hc⟩
      have := block_lt_of_cell hc
      rwa [addr_block] at this
    · cases hs
theorem weights_head {H : Type} {P : Program} {t : TypeId} {ts : List TypeId} {d : DataW H} {r : List (DataW H)} (h : (DataW.weightsEach P (t :: ts) (d :: r)).all (· ≤ reachBytes) = true) : ∀ x ∈ DataW.weights P t d, x ≤ reachBytes := fun x hx => by
  have := List.all_eq_true.1 h x (by rw [DataW.weightsEach]; exact List.mem_append_left _ hx)
  simpa using this
theorem weights_mem {H : Type} {P : Program} {e : TypeId} {d : DataW H} {x : Nat} : ∀ {l : List (DataW H)}, d ∈ l → x ∈ DataW.weights P e d → x ∈ DataW.weightsAll P e l
  | [], h, _ => by cases h
  | f :: r, h, hx => by
    rw [DataW.weightsAll]
    rcases List.mem_cons.1 h with rfl | h
    · exact List.mem_append_left _ hx
    · exact List.mem_append_right _ (weights_mem h hx)
theorem weights_tail {H : Type} {P : Program} {t : TypeId} {ts : List TypeId} {d : DataW H} {r : List (DataW H)} (h : (DataW.weightsEach P (t :: ts) (d :: r)).all (· ≤ reachBytes) = true) : (DataW.weightsEach P ts r).all (· ≤ reachBytes) = true := by
  rw [List.all_eq_true] at h ⊢
  exact fun x hx => h x (by rw [DataW.weightsEach]; exact List.mem_append_right _ hx)
set_option maxRecDepth 100000 in
/-- a slice of texts among the arguments, by its weight, and by its texts' -/
theorem open_atG {H : Type} {enc : TypeId × Value → H} {W : World} {base : Nat} {v : Value} {d : DataW H} {p : List MemPlace}
    (hval : Value.okWide Tryd.prog W .any base 29 v) (hd : DataW.Trod enc Tryd.prog W 0 (fun _ => true) true 29 v d p) (hk : ∀ x ∈ DataW.weights Tryd.prog 29 d, x ≤ reachBytes) :
    ∃ a l cap, v = .slice a l.length cap ∧ At W a l ∧ l.length ≤ cap ∧ cap ≤ 9223372036854775807 ∧ l.length ≤ 8796093021952 ∧ ∀ q ∈ l, q.length ≤ 140737488351232 := by
  obtain ⟨a0, len0, cap0, rfl⟩ := okWide_slice Tryd.underlying29 hval
  obtain ⟨fuel, hf⟩ := hd
  rcases open_strings Tryd.underlying29 Tryd.underlying9 cellsS hf with ⟨hcs, hx⟩ | ⟨a, len, cap, ss, hcs, _, hl, hm, hz, hx, hcell, hsz⟩
  · simp [Value.cells] at hcs
    obtain ⟨rfl, rfl, rfl⟩ := hcs
    exact ⟨none, [], 0, rfl, At.nil _ _, by simp, by omega, by simp, by simp⟩
  · simp [Value.cells] at hcs
    obtain ⟨rfl, rfl, rfl⟩ := hcs
    simp only [Prod.mk.injEq] at hx
    obtain ⟨rfl, _⟩ := hx
    simp only [if_true] at hz
    have hlen : ((ss.take len0).map (·.data.toList)).length = len0 := by simp; omega
    have hr : reachBytes = 140737488351232 := rfl
    have hw : cap0 * 16 ≤ reachBytes := by
      refine hk _ ?_
      rw [DataW.weights, Tryd.underlying29]
      simp only [bytesS]
      have e : (strs (H := H) (ss.take len0)).length + (strs (H := H) (ss.drop len0)).length = cap0 := by simp [strs]; omega
      rw [e]
      exact List.mem_cons_self
    have hq : ∀ s ∈ ss.take len0, s.data.toList.length ≤ reachBytes := fun s hs => by
      refine hk _ ?_
      rw [DataW.weights, Tryd.underlying29]
      refine List.mem_cons_of_mem _ (List.mem_append_left _ (weights_mem (d := .lit (.string s.data.toList)) ?_ ?_))
      · unfold strs
        exact List.mem_map.2 ⟨s, hs, rfl⟩
      · simp [DataW.weights]
    refine ⟨some a, (ss.take len0).map (·.data.toList), cap0, by rw [hlen], fun j p hp => ?_, by omega, hm, by omega, fun q hq' => ?_⟩
    rotate_left
    · obtain ⟨s, hs, rfl⟩ := List.mem_map.1 hq'
      have := hq s hs
      omega
    rw [List.getElem?_map, Option.map_eq_some_iff] at hp
    obtain ⟨s, hs, rfl⟩ := hp
    rw [List.getElem?_take] at hs
    split at hs
    · have hj := (List.getElem?_eq_some_iff.1 hs).1
      have hc := hcell j hj
      rw [List.getD_eq_getElem?_getD, hs] at hc
      refine ⟨a, rfl, ?_, hc⟩
      have := block_lt_of_cell hc
      rwa [addr_block] at this
    · cases hs
set_option maxRecDepth 100000 in
/-- a text among the arguments, by its weight -/
theorem open_strG {H : Type} {enc : TypeId × Value → H} {W : World} {base : Nat} {v : Value} {d : DataW H} {p : List MemPlace}
    (hval : Value.okWide Tryd.prog W .any base 9 v) (hd : DataW.Trod enc Tryd.prog W 0 (fun _ => true) true 9 v d p) (hk : ∀ x ∈ DataW.weights Tryd.prog 9 d, x ≤ reachBytes) :
    ∃ s : List UInt8, v = sv s ∧ s.length ≤ 140737488351232 := by
  obtain ⟨s0, rfl, rfl, rfl, hs0⟩ := ChangeMaps.open_string Tryd.underlying9 hval hd
  have hr : reachBytes = 140737488351232 := rfl
  have := hk s0.data.toList.length (by simp [DataW.weights])
  exact ⟨s0.data.toList, sv_eta s0, by omega⟩
end Go.Proofs.YtmpaliocfikifaaDoor

namespace Go.Proofs.YtmpaliocfikifaaDoor
open Go.ChangeShapes Go.WideShapes Go.ChangeAt Go.RowKit
theorem bytesI : Tryd.prog.bytesOf 3 = 8 := by kernel_rfl
set_option maxRecDepth 100000 in
/-- a slice of whole numbers among the arguments, by its weight -/
theorem open_atIF {H : Type} {enc : TypeId × Value → H} {W : World} {base : Nat} {v : Value} {d : DataW H} {p : List MemPlace}
    (hval : Value.okWide Tryd.prog W .any base 22 v) (hd : DataW.Trod enc Tryd.prog W 0 (fun _ => true) true 22 v d p) (hk : ∀ x ∈ DataW.weights Tryd.prog 22 d, x ≤ reachBytes) :
    ∃ a l cap, v = .slice a l.length cap ∧ AtI W a l ∧ l.length ≤ cap ∧ cap ≤ 9223372036854775807 ∧ l.length ≤ 17592186043904 ∧ ∀ c ∈ l, -9223372036854775808 ≤ c ∧ c ≤ 9223372036854775807 := by
  obtain ⟨a0, len0, cap0, rfl⟩ := okWide_slice Tryd.underlying22 hval
  obtain ⟨fuel, hf⟩ := hd
  rcases open_ints Tryd.underlying22 Tryd.underlying3 cellsI hf with ⟨hcs, hx⟩ | ⟨a, len, cap, zs, hcs, _, hl, hm, hz, hx, hcell, hwf⟩
  · simp [Value.cells] at hcs
    obtain ⟨rfl, rfl, rfl⟩ := hcs
    exact ⟨none, [], 0, rfl, fun j p hp => by simp at hp, by simp, by omega, by simp, fun c hc => by simp at hc⟩
  · simp [Value.cells] at hcs
    obtain ⟨rfl, rfl, rfl⟩ := hcs
    simp only [Prod.mk.injEq] at hx
    obtain ⟨rfl, _⟩ := hx
    simp only [if_true] at hz
    have hlen : (zs.take len0).length = len0 := by simp; omega
    have hw : cap0 * 8 ≤ reachBytes := by
      refine hk _ ?_
      rw [DataW.weights, Tryd.underlying22]
      simp only [bytesI]
      have e : (lits (H := H) .i64 (zs.take len0)).length + (lits (H := H) .i64 (zs.drop len0)).length = cap0 := by simp [lits]; omega
      rw [e]
      exact List.mem_cons_self
    have hr : reachBytes = 140737488351232 := rfl
    refine ⟨some a, zs.take len0, cap0, by rw [hlen], fun j c hc => ?_, by omega, hm, by omega, fun c hc => wf_i64 (hwf c (List.mem_of_mem_take hc))⟩
    rw [List.getElem?_take] at hc
    split at hc
    · have hj := (List.getElem?_eq_some_iff.1 hc).1
      have hc' := hcell j hj
      rw [List.getD_eq_getElem?_getD, hc] at hc'
      refine ⟨a, rfl, ?_, hc'⟩
      have := block_lt_of_cell hc'
      rwa [addr_block] at this
    · cases hc
end Go.Proofs.YtmpaliocfikifaaDoor
