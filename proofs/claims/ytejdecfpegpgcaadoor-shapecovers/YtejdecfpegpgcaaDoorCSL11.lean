import Derived.Test.YtejdecfpegpgcaaDoorCSK2
namespace Go.Proofs.YtejdecfpegpgcaaDoor
open Go.RowKit Go.Shelf
/-- the hash of the leaves x to y, as a text's bytes -/
def rb (l : List (List UInt8)) (x y : Nat) : ByteArray := ⟨(Tree.root (Tree.seg l x y)).toArray⟩
theorem rb_list (l : List (List UInt8)) (x y : Nat) : (rb l x y).data.toList = Tree.root (Tree.seg l x y) := rfl
/-- what is known: true hashes all of them, and all of KN that lies in [b, b + n) -/
structure Kn (l : List (List UInt8)) (b n : Nat) (KN : List (Nat × Nat)) (K : List Sub) : Prop where
  val : ∀ q ∈ K, ∃ x y : Nat, q = (((x : Int), (y : Int)), rb l x y)
  has : ∀ s ∈ KN, b ≤ s.1 → s.1 < s.2 → s.2 ≤ b + n → (((s.1 : Int), (s.2 : Int)), rb l s.1 s.2) ∈ K
theorem hasI_nat {b e x y : Nat} (h1 : b ≤ x) (h2 : x < y) (h3 : y ≤ e) : hasI (b : Int) (e : Int) (x : Int) (y : Int) = true := by
  unfold hasI
  simp
  omega
theorem Kn.part {l : List (List UInt8)} {b n b' n' : Nat} {KN : List (Nat × Nat)} {K : List Sub} (h : Kn l b n KN K) (h1 : b ≤ b') (h2 : b' + n' ≤ b + n) : Kn l b' n' KN (witS (b' : Int) ((b' + n' : Nat) : Int) K) :=
  ⟨fun q hq => h.val q (List.mem_filter.1 hq).1, fun s hs h3 h4 h5 => List.mem_filter.2 ⟨h.has s hs (by omega) h4 (by omega), hasI_nat h3 h4 h5⟩⟩
theorem Kn.some {l : List (List UInt8)} {b n f : Nat} {KN : List (Nat × Nat)} {K : List Sub} (h : Kn l b n KN K) (hf : n ≤ f) (h1 : 1 ≤ n) (hc : Tree.canF f b n KN = true) : K.length ≠ 0 := by
  obtain ⟨s, hs, a1, a2, a3⟩ := Tree.can_within KN f b n hf h1 hc
  have := h.has s hs a1 a3 a2
  intro e
  rw [List.eq_nil_of_length_eq_zero e] at this
  cases this
theorem foS_root (l : List (List UInt8)) (KN : List (Nat × Nat)) : ∀ (f b n : Nat) (K : List Sub), n ≤ f → 1 ≤ n → b + n ≤ l.length → Kn l b n KN K → Tree.canF f b n KN = true → foS f b n K = some (rb l b (b + n))
  | 0, b, n, K, h1, h2, _, _, _ => by omega
  | f + 1, b, n, K, h1, h2, h3, hK, hc => by
    rw [foS]
    cases hfd : K.find? (fun q => decide (q.1 = ((b : Int), ((b + n : Nat) : Int)))) with
    | some q =>
      have e0 := List.find?_some hfd
      have e := of_decide_eq_true (show decide (q.1 = ((b : Int), ((b + n : Nat) : Int))) = true from e0)
      clear e0
      obtain ⟨x, y, hq⟩ := hK.val q (List.mem_of_find?_eq_some hfd)
      subst hq
      have e1 : (x : Int) = (b : Int) := congrArg Prod.fst e
      have e2 : (y : Int) = ((b + n : Nat) : Int) := congrArg Prod.snd e
      obtain rfl : x = b := by omega
      obtain rfl : y = x + n := by omega
      rfl
    | none =>
      have hno : ¬ (b, b + n) ∈ KN := fun hm => by
        have := hK.has _ hm (Nat.le_refl _) (by show b < b + n; omega) (Nat.le_refl _)
        have hn := List.find?_eq_none.1 hfd _ this
        exact hn (decide_eq_true rfl)
      rw [Tree.canF, if_neg hno] at hc
      by_cases hn2 : n < 2
      · rw [if_pos hn2] at hc; cases hc
      · rw [if_neg hn2, Bool.and_eq_true] at hc
        obtain ⟨c1, c2⟩ := hc
        have s1 := Tree.sp_lt (n := n) (by omega)
        have s2 := Tree.sp_pos (n := n) (by omega)
        have k1 := hK.part (b' := b) (n' := Tree.sp n) (Nat.le_refl _) (by omega)
        have k2 := hK.part (b' := b + Tree.sp n) (n' := n - Tree.sp n) (by omega) (by omega)
        have l1 := k1.some (by omega) (by omega) c1
        have l2 := k2.some (by omega) (by omega) c2
        have r1 := foS_root l KN f b (Tree.sp n) _ (by omega) (by omega) (by omega) k1 c1
        have r2 := foS_root l KN f (b + Tree.sp n) (n - Tree.sp n) _ (by omega) (by omega) (by omega) k2 c2
        rw [show b + Tree.sp n + (n - Tree.sp n) = b + n by omega] at l2 r2
        have rr := Tree.root_seg_two (l := l) (b := b) (n := n) (by omega) h3
        simp only [if_neg hn2]
        rw [if_neg (by intro h; rcases h with h | h; exact l1 h; exact l2 h), r1]
        simp only []
        rw [r2]
        simp only []
        rw [rb_list, rb_list, ← rr]
        rfl
theorem prd_mem {l : List (List UInt8)} : ∀ (KN : List (Nat × Nat)) (q : Sub), q ∈ prd (pm KN) (bas (KN.map fun s => Tree.root (Tree.seg l s.1 s.2))) ↔ ∃ s ∈ KN, q = (((s.1 : Int), (s.2 : Int)), rb l s.1 s.2)
  | [], q => by simp [prd, bas, pm]
  | s :: KN, q => by
    have ih := prd_mem (l := l) KN q
    have e : prd (pm (s :: KN)) (bas ((s :: KN).map fun s => Tree.root (Tree.seg l s.1 s.2))) = (((s.1 : Int), (s.2 : Int)), rb l s.1 s.2) :: prd (pm KN) (bas (KN.map fun s => Tree.root (Tree.seg l s.1 s.2))) := rfl
    rw [e, List.mem_cons, ih]
    constructor
    · rintro (h | ⟨t, ht, h⟩)
      · exact ⟨s, List.mem_cons_self, h⟩
      · exact ⟨t, List.mem_cons_of_mem _ ht, h⟩
    · rintro ⟨t, ht, h⟩
      rcases List.mem_cons.1 ht with rfl | ht
      · exact .inl h
      · exact .inr ⟨t, ht, h⟩
/-- H5, H6: known hashes that reach fold to the root -/
theorem foldA_root (l : List (List UInt8)) (KN : List (Nat × Nat)) (h1 : 1 ≤ l.length) (h2 : l.length ≤ 1099511627776) (hk : KN.length ≤ 4096) (hh : hsB8 (KN.map fun s => Tree.root (Tree.seg l s.1 s.2)) = true) (hc : Tree.canF l.length 0 l.length KN = true) :
    foldA (l.length : Int) (pm KN) (KN.map fun s => Tree.root (Tree.seg l s.1 s.2)) 0 (l.length : Int) = (rb l 0 l.length, 0) := by
  have hi' := insB_of (b := 0) (e := l.length) h1 h2 (by have := Tree.insF_self (f := l.length - 1) (b := 0) (n := l.length); rwa [Nat.zero_add, show l.length - 1 + 1 = l.length by omega] at this)
  have hi : insB (l.length : Int) 0 (l.length : Int) = true := hi'
  have hw : Kn l 0 l.length KN (witS ((0 : Nat) : Int) ((0 + l.length : Nat) : Int) (prd (pm KN) (bas (KN.map fun s => Tree.root (Tree.seg l s.1 s.2))))) :=
    (Kn.mk (b := 0) (n := l.length) (KN := KN) (fun q hq => by
      obtain ⟨s, _, e⟩ := (prd_mem KN q).1 hq
      exact ⟨s.1, s.2, e⟩) (fun s hs _ _ _ => (prd_mem KN _).2 ⟨s, hs, rfl⟩)).part (Nat.le_refl _) (Nat.le_refl _)
  have hf := foS_root l KN l.length 0 l.length _ (Nat.le_refl _) h1 (by omega) hw hc
  rw [Nat.zero_add] at hf
  unfold foldA
  rw [if_pos (by omega), if_pos (by simp [pm]; omega), if_pos hh, if_pos hi]
  have e0 : ((l.length : Int).toNat - (0 : Int).toNat) = l.length := by omega
  rw [e0]
  have e1 : (0 : Int).toNat = 0 := rfl
  rw [e1]
  rw [show ((0 : Nat) : Int) = (0 : Int) from rfl] at hf
  rw [hf]
end Go.Proofs.YtejdecfpegpgcaaDoor

namespace Go.Proofs.YtejdecfpegpgcaaDoor
open Go.RowKit Go.Shelf
theorem seg_hs {l : List (List UInt8)} (h : Tree.Hs l) (x y : Nat) : Tree.Hs (Tree.seg l x y) := fun t ht => h t (List.mem_of_mem_take (List.mem_of_mem_drop ht))
theorem roots_hs {l : List (List UInt8)} (h : Tree.Hs l) (KN : List (Nat × Nat)) : hsB8 (KN.map fun s => Tree.root (Tree.seg l s.1 s.2)) = true := by
  unfold hsB8
  rw [List.all_eq_true]
  intro t ht
  obtain ⟨s, _, rfl⟩ := List.mem_map.1 ht
  rw [Tree.root_hash (seg_hs h _ _)]
  rfl
/-- the leaves of a list, as spans -/
def lvs (is : List Nat) : List (Nat × Nat) := is.map fun i => (i, i + 1)
theorem lvs_len (is : List Nat) : (lvs is).length = is.length := List.length_map _
theorem lvs_snoc (is : List Nat) (i : Nat) : lvs (is ++ [i]) = lvs is ++ [(i, i + 1)] := by unfold lvs; rw [List.map_append]; rfl
theorem lvs_mem {is : List Nat} {i : Nat} (h : i ∈ is) : (i, i + 1) ∈ lvs is := List.mem_map.2 ⟨i, h, rfl⟩
/-- H6: what lies beside some leaves folds with them to the root -/
theorem fold_oth (l : List (List UInt8)) (hs : Tree.Hs l) (cs : List Int) (hb : BatOk (l.length : Int) cs) (h2 : l.length ≤ 4096) :
    foldA (l.length : Int) (pm (Tree.othF l.length 0 l.length (toN cs) ++ lvs (toN cs))) ((Tree.othF l.length 0 l.length (toN cs) ++ lvs (toN cs)).map fun s => Tree.root (Tree.seg l s.1 s.2)) 0 (l.length : Int) = (rb l 0 l.length, 0) := by
  have h1 : 1 ≤ l.length := by have := hb.n1; omega
  have hc := bat_count hb
  refine foldA_root l _ h1 (by omega) ?_ (roots_hs hs _) ?_
  · rw [List.length_append, lvs_len, hb.len]
    omega
  · exact Tree.can_oth _ (toN cs) _ 0 _ (Nat.le_refl _) h1 (fun s h => List.mem_append_left _ h) (fun i hi _ _ => List.mem_append_right _ (lvs_mem hi))
/-- H6: what lies beside a run of leaves folds with them to the root -/
theorem fold_run (l : List (List UInt8)) (hs : Tree.Hs l) (x y : Nat) (hxy : x < y) (hy : y ≤ l.length) (h2 : l.length ≤ 2048) :
    foldA (l.length : Int) (pm (Tree.runF l.length 0 l.length x y ++ lvs (List.range' x (y - x)))) ((Tree.runF l.length 0 l.length x y ++ lvs (List.range' x (y - x))).map fun s => Tree.root (Tree.seg l s.1 s.2)) 0 (l.length : Int) = (rb l 0 l.length, 0) := by
  have h1 : 1 ≤ l.length := by omega
  have ha := Tree.runF_apart x y l.length 0 l.length h1 (Nat.le_refl _) hxy
  have hl := Apt_len ha
  refine foldA_root l _ h1 (by omega) ?_ (roots_hs hs _) ?_
  · rw [List.length_append, lvs_len, List.length_range']
    omega
  · refine Tree.can_run _ x y _ 0 _ (Nat.le_refl _) h1 (fun s h => List.mem_append_left _ h) (fun i hi hj => List.mem_append_right _ (lvs_mem ?_))
    rw [List.mem_range'_1]
    omega
/-- every span of a batch or a run, and of a path or a proof, is one of [0, n) -/
theorem apt_in : ∀ {L : List (Nat × Nat)} {b e : Nat} {p : Nat → Bool}, Tree.Apt b e L p → ∀ s ∈ L, b ≤ s.1 ∧ s.1 < s.2 ∧ s.2 ≤ e
  | s :: L, b, e, p, h, t, ht => by
    obtain ⟨a1, a2, a3, a4, a5, a6⟩ := h
    rcases List.mem_cons.1 ht with rfl | ht
    · exact ⟨a1, a2, a3⟩
    · have := apt_in a6 t ht
      exact ⟨by omega, this.2.1, this.2.2⟩
end Go.Proofs.YtejdecfpegpgcaaDoor

namespace Go.Proofs.YtejdecfpegpgcaaDoor
open Go.RowKit Go.Shelf
theorem seg_all (l : List (List UInt8)) : Tree.seg l 0 l.length = l := by unfold Tree.seg; rw [List.take_length]; rfl
theorem pth_in : ∀ (f b n i : Nat), ∀ s ∈ Tree.pthF f b n i, b ≤ s.1 ∧ s.1 ≤ s.2 ∧ s.2 ≤ b + n
  | 0, b, n, i, s, h => by cases h
  | f + 1, b, n, i, s, h => by
    by_cases h2 : n < 2
    · rw [Tree.pthF_small h2] at h; cases h
    · have s1 := Tree.sp_lt (n := n) (by omega)
      have s2 := Tree.sp_pos (n := n) (by omega)
      by_cases hi : i < b + Tree.sp n
      · rw [Tree.pthF_left (by omega) hi] at h
        rcases List.mem_append.1 h with h | h
        · have := pth_in f b (Tree.sp n) i s h
          omega
        · obtain rfl := List.mem_singleton.1 h
          exact ⟨by show b ≤ b + Tree.sp n; omega, by show b + Tree.sp n ≤ b + n; omega, by show b + n ≤ b + n; omega⟩
      · rw [Tree.pthF_right (by omega) hi] at h
        rcases List.mem_append.1 h with h | h
        · have := pth_in f (b + Tree.sp n) (n - Tree.sp n) i s h
          omega
        · obtain rfl := List.mem_singleton.1 h
          exact ⟨by show b ≤ b; omega, by show b ≤ b + Tree.sp n; omega, by show b + Tree.sp n ≤ b + n; omega⟩
theorem prf_in : ∀ (f b n m : Nat), 1 ≤ n → b < m → m ≤ b + n → ∀ s ∈ Tree.prfF f b n m, b ≤ s.1 ∧ s.1 ≤ s.2 ∧ s.2 ≤ b + n
  | 0, b, n, m, _, _, _, s, h => by cases h
  | f + 1, b, n, m, h1, hm, hm2, s, h => by
    rw [Tree.prfF] at h
    by_cases h2 : b + n = m
    · rw [if_pos h2] at h
      by_cases hb : b = 0
      · rw [if_pos hb] at h; cases h
      · rw [if_neg hb] at h
        obtain rfl := List.mem_singleton.1 h
        exact ⟨by show b ≤ b; omega, by show b ≤ b + n; omega, by show b + n ≤ b + n; omega⟩
    · rw [if_neg h2] at h
      have s1 := Tree.sp_lt (n := n) (by omega)
      have s2 := Tree.sp_pos (n := n) (by omega)
      by_cases hi : m ≤ b + Tree.sp n
      · rw [if_pos hi] at h
        rcases List.mem_append.1 h with h | h
        · have := prf_in f b (Tree.sp n) m (by omega) hm hi s h
          omega
        · obtain rfl := List.mem_singleton.1 h
          exact ⟨by show b ≤ b + Tree.sp n; omega, by show b + Tree.sp n ≤ b + n; omega, by show b + n ≤ b + n; omega⟩
      · rw [if_neg hi] at h
        rcases List.mem_append.1 h with h | h
        · have := prf_in f (b + Tree.sp n) (n - Tree.sp n) m (by omega) (by omega) (by omega) s h
          omega
        · obtain rfl := List.mem_singleton.1 h
          exact ⟨by show b ≤ b; omega, by show b ≤ b + Tree.sp n; omega, by show b + Tree.sp n ≤ b + n; omega⟩
/-- H2, H3, H4 against layer 3 -/
theorem pth_hash (l : List (List UInt8)) (k : Nat) (hk : k < l.length) : (Tree.pthF l.length 0 l.length k).map (fun s => Tree.root (Tree.seg l s.1 s.2)) = Tree.path k l := by
  have h := Tree.pthF_hash l l.length 0 l.length k (Nat.le_refl _) (Nat.zero_le _) (by omega) (by omega)
  rw [Nat.zero_add, seg_all, Nat.sub_zero] at h
  exact h
theorem prf_hash (l : List (List UInt8)) (m : Nat) (h1 : 1 ≤ m) (h2 : m ≤ l.length) : (Tree.prfF l.length 0 l.length m).map (fun s => Tree.root (Tree.seg l s.1 s.2)) = Tree.proof m l true := by
  have h := Tree.prfF_hash l l.length 0 l.length m (Nat.le_refl _) (by omega) (by omega) (by omega)
  rw [Nat.zero_add, seg_all, Nat.sub_zero] at h
  exact h
theorem oth_hash (l : List (List UInt8)) (is : List Nat) (h1 : 1 ≤ l.length) (hi : ∀ i ∈ is, i < l.length) : (Tree.othF l.length 0 l.length is).map (fun s => Tree.root (Tree.seg l s.1 s.2)) = Tree.many is 0 l := by
  have h := Tree.othF_hash l is l.length 0 l.length h1 (Nat.le_refl _) (by omega)
  rw [wit_whole hi, Nat.zero_add, seg_all] at h
  exact h
end Go.Proofs.YtejdecfpegpgcaaDoor

namespace Go.Proofs.YtejdecfpegpgcaaDoor
open Go.RowKit Go.Shelf
theorem BatOk.okI {n : Nat} {cs : List Int} (h : BatOk (n : Int) cs) : OkI n cs := by
  refine ⟨h.l1, h.l2, fun j x hx => ?_, fun j x y hx hy => ?_⟩
  · exact h.all x (List.mem_of_getElem? hx)
  · obtain ⟨h1, e1⟩ := List.getElem?_eq_some_iff.1 hx
    obtain ⟨h2, e2⟩ := List.getElem?_eq_some_iff.1 hy
    have := List.pairwise_iff_getElem.1 h.so j (j + 1) h1 h2 (by omega)
    rw [e1, e2] at this
    exact this
theorem hs_all {X : List (List UInt8)} (h : X.all (·.length == 32) = true) : Tree.Hs X := fun x hx => by
  have := List.all_eq_true.1 h x hx
  simpa using this
theorem wrg_zero {X : List (List UInt8)} (h : X.all (·.length == 32) = true) (hl : X.length ≤ 4096) : wrg X = 0 := by
  unfold wrg
  rw [if_neg (by omega), if_pos h]
theorem rootOut_ok {X : List (List UInt8)} (h : wrg X = 0) : rootOut X = (Tree.root X, 0) := by unfold rootOut; rw [if_pos h]
theorem pathOut_ok {X : List (List UInt8)} (h : wrg X = 0) {k : Nat} (hk : k < X.length) : pathOut X (k : Int) = (Tree.path k X, 0) := by
  unfold pathOut; rw [if_pos h, if_pos (by omega), Int.toNat_natCast]
theorem proofOut_ok {X : List (List UInt8)} (h : wrg X = 0) {m : Nat} (h1 : 1 ≤ m) (hm : m ≤ X.length) : proofOut X (m : Int) = (Tree.proof m X true, 0) := by
  unfold proofOut; rw [if_pos h, if_pos (by omega), Int.toNat_natCast]
theorem manyOut_ok {X : List (List UInt8)} (h : wrg X = 0) {cs : List Int} (hb : BatOk (X.length : Int) cs) : manyOut X cs = (Tree.many (toN cs) 0 X, 0) := by
  unfold manyOut; rw [if_pos h, if_pos hb.okI]
/-- a list of texts and no error -/
def AnsT (n : Nat) (L : List (List UInt8)) (w : World) (r : Ending) (w' : World) : Prop := ∃ a k, r = .returned (.tuple #[.slice a n k, .int .i64 0]) ∧ At w' a L ∧ Below w.heap.size w w'
theorem Out2.ans {w w' : World} {o : List (List UInt8) × Int} {L : List (List UInt8)} {r : Ending} {n : Nat} (h : Out2 w o r w') (ho : o = (L, 0)) (hn : L.length = n) : AnsT n L w r w' := by
  subst ho hn
  obtain ⟨v, rfl, h1, h2⟩ := h
  obtain ⟨a, cap, rfl, h3, _⟩ := h1.at
  exact ⟨a, cap, rfl, h3, h2⟩
end Go.Proofs.YtejdecfpegpgcaaDoor

namespace Go.Proofs.YtejdecfpegpgcaaDoor
open Go.RowKit Go.Shelf

/-- the hash of a span of these leaves -/
def shX (X : List (List UInt8)) (s : Nat × Nat) : List UInt8 := Tree.root (Tree.seg X s.1 s.2)
/-- what the calls of ShapeTrees answer that hang on the leaves alone -/
structure TrA (X : List (List UInt8)) (M kk m Y : Nat) (xa : Option Addr) (xcap : Nat) (Rt : List UInt8) (P Q : List (List UInt8)) (SA SC SX : List (Nat × Nat)) (pn qn yn : Nat) : Prop where
  root : ∀ w', At w' xa X → Tabs w' → Calls Tryd.prog 32 #[.slice xa M xcap] w' fun e w'' => e = .returned (.tuple #[sv Rt, .int .i64 0]) ∧ Below w'.heap.size w' w''
  path : ∀ w', At w' xa X → Tabs w' → Calls Tryd.prog 33 #[.slice xa M xcap, .int .i64 (kk : Int)] w' (AnsT pn P w')
  proof : ∀ w', At w' xa X → Tabs w' → Calls Tryd.prog 34 #[.slice xa M xcap, .int .i64 (m : Int)] w' (AnsT qn Q w')
  spath : ∀ w', Calls Tryd.prog 19 #[.int .i64 (M : Int), .int .i64 (kk : Int)] w' (Ans pn (pm SA) w')
  sproof : ∀ w', Calls Tryd.prog 20 #[.int .i64 (m : Int), .int .i64 (M : Int)] w' (Ans qn (pm SC) w')
  srun : ∀ w', Calls Tryd.prog 25 #[.int .i64 (M : Int), sg kk Y] w' (SpP w' 0 SX)
  one : ∀ w' aa pa ac pc, At w' xa X → AtP w' aa (pm SA) → At w' pa P → Tb w' → Calls Tryd.prog 36 #[.slice xa M xcap, .slice aa pn ac, .slice pa pn pc] w' fun x w'' => x = .returned (.bool true) ∧ Below w'.heap.size w' w''
  two : ∀ w' aa pa ac pc, At w' xa X → AtP w' aa (pm SC) → At w' pa Q → Tb w' → Calls Tryd.prog 36 #[.slice xa M xcap, .slice aa qn ac, .slice pa qn pc] w' fun x w'' => x = .returned (.bool true) ∧ Below w'.heap.size w' w''
  fold : foldA (M : Int) (pm (SX ++ lvs (List.range' kk (Y - kk)))) ((SX ++ lvs (List.range' kk (Y - kk))).map (shX X)) 0 (M : Int) = (⟨Rt.toArray⟩, 0)
  len : SX.length = yn
  few : yn ≤ 4096
  inX : ∀ s ∈ SX ++ lvs (List.range' kk (Y - kk)), s.1 ≤ s.2 ∧ s.2 ≤ M
  fd : ∀ w' (b e : Nat), b ≤ e → e ≤ M → At w' xa X → Tb w' → Calls Tryd.prog 37 #[.slice xa M xcap, sg b e] w' fun x w'' => x = .returned (sv (shX X (b, e))) ∧ Below w'.heap.size w' w''
theorem trA_ok (X : List (List UInt8)) (M kk m Y : Nat) (hXM : X.length = M) (hXa : X.all (·.length == 32) = true) (M1 : 1 ≤ M) (M2 : M ≤ 70) (hk : kk < M) (m1 : 1 ≤ m) (m2 : m ≤ M) (hkY : kk < Y) (hYM : Y ≤ M) (xa : Option Addr) (xcap : Nat) (hxl : M ≤ xcap) (hxc : xcap ≤ 9223372036854775807) :
    ∃ P Q SA SC SX pn qn yn, TrA X M kk m Y xa xcap (Tree.root X) P Q SA SC SX pn qn yn := by
  subst hXM
  have hs := hs_all hXa
  have hw0 := wrg_zero hXa (by omega)
  have hpl := congrArg List.length (pth_hash X kk hk)
  rw [List.length_map] at hpl
  have hql := congrArg List.length (prf_hash X m m1 m2)
  rw [List.length_map] at hql
  have hpD : (Tree.D X.length kk).length = (Tree.path kk X).length := by
    have e := Tree.pthF_len X.length 0 X.length kk (Nat.le_refl _) (Nat.zero_le _)
    rw [Nat.sub_zero] at e
    rw [← e, hpl]
  have hqD : Tree.pl m X.length true = (Tree.proof m X true).length := by
    have e := Tree.prfF_len X.length 0 X.length m (Nat.le_refl _) (by omega) (by omega)
    rw [Nat.sub_zero] at e
    rw [← hql]; exact e.symm
  have hqle : Tree.pl m X.length true ≤ X.length := Tree.pl_le X.length m X.length true (Nat.le_refl _) m1 m2
  have hDle := D_le X.length kk hk (by omega)
  have hap := Tree.runF_apart kk Y X.length 0 X.length M1 (Nat.le_refl _) hkY
  have hal := Apt_len hap
  have hrE : runE (X.length : Int) (kk : Int) (Y : Int) = 0 := by unfold runE; rw [if_pos (by omega), if_pos (by omega)]
  have hrL : runL (X.length : Int) (kk : Int) (Y : Int) = Tree.runF X.length 0 X.length kk Y := by unfold runL; rw [if_pos hrE, Int.toNat_natCast, Int.toNat_natCast, Int.toNat_natCast]
  refine ⟨Tree.path kk X, Tree.proof m X true, Tree.pthF X.length 0 X.length kk, Tree.prfF X.length 0 X.length m, Tree.runF X.length 0 X.length kk Y, (Tree.path kk X).length, (Tree.proof m X true).length, (Tree.runF X.length 0 X.length kk Y).length, ?_⟩
  constructor
  case root =>
    intro w' h t
    have := Root_any X xa xcap w' hxl hxc h t
    rw [rootOut_ok hw0] at this
    exact this
  case path => exact fun w' h t => (Path_any X (kk : Int) xa xcap w' hxl hxc h t).mono fun r w'' o => o.ans (pathOut_ok hw0 hk) rfl
  case proof => exact fun w' h t => (Proof_any X (m : Int) xa xcap w' hxl hxc h t).mono fun r w'' o => o.ans (proofOut_ok hw0 m1 m2) rfl
  case spath => exact fun w' => path8_ans X.length kk _ hk (by omega) hpD w'
  case sproof => exact fun w' => proof8_ans m X.length _ m1 m2 (by omega) hqD w'
  case srun =>
    intro w'
    have := run8_any (X.length : Int) kk Y w'
    rw [hrE, hrL] at this
    exact this
  case one =>
    intro w' aa pa ac pc h1 h2 h3 t
    have := hashed8_any X (Tree.pthF X.length 0 X.length kk) (Tree.path kk X) (pth_hash X kk hk) (fun s hs => by have := pth_in _ _ _ _ s hs; omega) xa aa pa xcap ac pc w' hw0 hxl hxc (by rw [hpl, ← hpD]; exact Nat.le_trans hDle (by decide)) h1 h2 h3 t
    rw [hpl] at this
    exact this
  case two =>
    intro w' aa pa ac pc h1 h2 h3 t
    have := hashed8_any X (Tree.prfF X.length 0 X.length m) (Tree.proof m X true) (prf_hash X m m1 m2) (fun s hs => by have := prf_in _ _ _ _ M1 (by omega) (by omega) s hs; omega) xa aa pa xcap ac pc w' hw0 hxl hxc (by rw [hql, ← hqD]; omega) h1 h2 h3 t
    rw [hql] at this
    exact this
  case fold =>
    have e := fold_run X hs kk Y hkY hYM (by omega)
    rw [show rb X 0 X.length = ⟨(Tree.root X).toArray⟩ by rw [rb, seg_all]] at e
    exact e
  case len => rfl
  case few => omega
  case inX =>
    intro s hs
    rcases List.mem_append.1 hs with hs | hs
    · have := apt_in hap s hs; omega
    · obtain ⟨i, hi, rfl⟩ := List.mem_map.1 hs
      have := List.mem_range'_1.1 hi
      exact ⟨by omega, by show i + 1 ≤ _; omega⟩
  case fd => exact fun w' b e h1 h2 h t => folded8_any X b e _ rfl xa xcap w' hw0 h1 h2 hxl hxc h t
/-- what the calls answer that hang on the indices besides -/
structure TrB (X : List (List UInt8)) (M : Nat) (L : List Int) (xa ra : Option Addr) (xcap rc : Nat) (Rt : List UInt8) (MN : List (List UInt8)) (SD : List (Nat × Nat)) (mn lr : Nat) : Prop where
  many : ∀ w', At w' xa X → Tabs w' → AtI w' ra L → Calls Tryd.prog 35 #[.slice xa M xcap, .slice ra lr rc] w' (AnsT mn MN w')
  batch : ∀ w', AtI w' ra L → Calls Tryd.prog 21 #[.int .i64 (M : Int), .slice ra lr rc] w' (SpP w' 0 SD)
  three : ∀ w' aa pa ac pc, At w' xa X → AtP w' aa (pm SD) → At w' pa MN → Tb w' → Calls Tryd.prog 36 #[.slice xa M xcap, .slice aa mn ac, .slice pa mn pc] w' fun x w'' => x = .returned (.bool true) ∧ Below w'.heap.size w' w''
  fold : foldA (M : Int) (pm (SD ++ lvs (toN L))) ((SD ++ lvs (toN L)).map (shX X)) 0 (M : Int) = (⟨Rt.toArray⟩, 0)
  len : SD.length = mn
  lenL : L.length = lr
  few : mn ≤ 4096
  fewL : lr ≤ 4096
  inD : ∀ s ∈ SD ++ lvs (toN L), s.1 ≤ s.2 ∧ s.2 ≤ M
  inL : ∀ (j : Nat), j < lr → ∃ i : Nat, L[j]? = some (i : Int) ∧ i < M ∧ (toN L)[j]? = some i
theorem trB_ok (X : List (List UInt8)) (M : Nat) (L : List Int) (hXM : X.length = M) (hXa : X.all (·.length == 32) = true) (M2 : M ≤ 70) (hB : BatOk (M : Int) L) (xa ra : Option Addr) (xcap rc : Nat) (hxl : M ≤ xcap) (hxc : xcap ≤ 9223372036854775807) (hrl : L.length ≤ rc) (hrc : rc ≤ 9223372036854775807) :
    ∃ MN SD mn lr, TrB X M L xa ra xcap rc (Tree.root X) MN SD mn lr := by
  subst hXM
  have hs := hs_all hXa
  have hw0 := wrg_zero hXa (by omega)
  have M1 : 1 ≤ X.length := by have := hB.n1; omega
  have hlt : ∀ i ∈ toN L, i < X.length := fun i hi => by have := hB.lt i hi; rwa [Int.toNat_natCast] at this
  have hml := congrArg List.length (oth_hash X (toN L) M1 hlt)
  rw [List.length_map] at hml
  have hbc := bat_count hB
  have hbE := batchE_ok hB
  have hbL : batchL (X.length : Int) L = Tree.othF X.length 0 X.length (toN L) := by unfold batchL; rw [if_pos hbE, Int.toNat_natCast]
  refine ⟨Tree.many (toN L) 0 X, Tree.othF X.length 0 X.length (toN L), (Tree.many (toN L) 0 X).length, L.length, ?_⟩
  constructor
  case many => exact fun w' h t hi => (Many_any X L xa ra xcap rc w' hxl hxc h t hrl hrc hi).mono fun r w'' o => o.ans (manyOut_ok hw0 hB) rfl
  case batch =>
    intro w' h
    have := batch8_any (X.length : Int) L ra rc w' (by omega) h
    rw [hbE, hbL] at this
    exact this
  case three =>
    intro w' aa pa ac pc h1 h2 h3 t
    have := hashed8_any X (Tree.othF X.length 0 X.length (toN L)) (Tree.many (toN L) 0 X) (oth_hash X (toN L) M1 hlt) (fun s hs => by have := apt_in (Tree.othF_apart (toN L) X.length 0 X.length M1 (Nat.le_refl _)) s hs; omega) xa aa pa xcap ac pc w' hw0 hxl hxc (by omega) h1 h2 h3 t
    rw [hml] at this
    exact this
  case fold =>
    have e := fold_oth X hs L hB (by omega)
    rw [show rb X 0 X.length = ⟨(Tree.root X).toArray⟩ by rw [rb, seg_all]] at e
    exact e
  case len => exact hml
  case lenL => rfl
  case few => omega
  case fewL => omega
  case inD =>
    intro s hs
    rcases List.mem_append.1 hs with hs | hs
    · have := apt_in (Tree.othF_apart (toN L) X.length 0 X.length M1 (Nat.le_refl _)) s hs; omega
    · obtain ⟨i, hi, rfl⟩ := List.mem_map.1 hs
      have := hlt i hi
      exact ⟨by omega, by show i + 1 ≤ _; omega⟩
  case inL =>
    intro j hj
    have e := List.getElem?_eq_getElem hj
    have ha := hB.all L[j] (List.getElem_mem hj)
    refine ⟨L[j].toNat, ?_, by omega, ?_⟩
    · rw [e]; congr 1; omega
    · rw [toN, List.getElem?_map, e]; rfl
end Go.Proofs.YtejdecfpegpgcaaDoor

namespace Go.Proofs.YtejdecfpegpgcaaDoor
open Go.RowKit Go.Shelf

/-- the law's two lists of spans while they grow: all that lies below wD's end stays -/
structure T2 (wD w : World) (gS kk Y : Nat) (vd vx : Value) (A B : List (Nat × Nat)) : Prop where
  bel : Below wD.heap.size wD w
  od : OwnP w vd A
  ox : OwnP w vx B
  sp : SpI w gS kk Y
  nd : ∀ k, vd.ownBlock = some k → wD.heap.size ≤ k
  nx : ∀ k, vx.ownBlock = some k → wD.heap.size ≤ k
  ne : ∀ k, vd.ownBlock = some k → vx.ownBlock ≠ some k
  sd : vd.ownBlock ≠ some gS
  sx : vx.ownBlock ≠ some gS
theorem T2.growD {wD w w' : World} {gS kk Y : Nat} {vd vx v' : Value} {A A' B : List (Nat × Nat)} (h : T2 wD w gS kk Y vd vx A B) (hg : Grow w w' vd v') (ho : OwnP w' v' A') : T2 wD w' gS kk Y v' vx A' B where
  bel := h.bel.trans ⟨hg.os, hg.tape, hg.output, hg.size, fun k hk => hg.old k (Nat.lt_of_lt_of_le hk h.bel.size) (fun e => by have := h.nd k e; omega)⟩
  od := ho
  ox := h.ox.kept hg.size (fun g e => hg.old g (h.ox.lt g e) (fun e' => h.ne g e' e))
  sp := (hg.old gS (lt_of_heap h.sp) h.sd).trans h.sp
  nd := fun k e => by
    rcases hg.alt with e1 | ⟨e1, _⟩
    · exact h.nd k (e1 ▸ e)
    · exact Nat.le_trans h.bel.size (e1 k e)
  nx := h.nx
  ne := fun k e => by
    rcases hg.alt with e1 | ⟨e1, _⟩
    · exact h.ne k (e1 ▸ e)
    · intro e2
      have := e1 k e
      have := h.ox.lt k e2
      omega
  sd := by
    rcases hg.alt with e1 | ⟨e1, _⟩
    · rw [e1]; exact h.sd
    · intro e2
      have := e1 gS e2
      have := lt_of_heap h.sp
      omega
  sx := h.sx
theorem T2.flip {wD w : World} {gS kk Y : Nat} {vd vx : Value} {A B : List (Nat × Nat)} (h : T2 wD w gS kk Y vd vx A B) : T2 wD w gS kk Y vx vd B A :=
  ⟨h.bel, h.ox, h.od, h.sp, h.nx, h.nd, fun k e1 e2 => h.ne k e2 e1, h.sx, h.sd⟩
theorem T2.growX {wD w w' : World} {gS kk Y : Nat} {vd vx v' : Value} {A B B' : List (Nat × Nat)} (h : T2 wD w gS kk Y vd vx A B) (hg : Grow w w' vx v') (ho : OwnP w' v' B') : T2 wD w' gS kk Y vd v' A B' := (h.flip.growD hg ho).flip
theorem T2.drew {wD w : World} {gS kk Y : Nat} {vd vx : Value} {A B : List (Nat × Nat)} (h : T2 wD w gS kk Y vd vx A B) : T2 wD w.drew gS kk Y vd vx A B :=
  ⟨h.bel.drew, h.od.drew, h.ox.drew, h.sp, h.nd, h.nx, h.ne, h.sd, h.sx⟩
theorem T2.below {wD w w' : World} {gS kk Y : Nat} {vd vx : Value} {A B : List (Nat × Nat)} (h : T2 wD w gS kk Y vd vx A B) (hb : Below w.heap.size w w') : T2 wD w' gS kk Y vd vx A B :=
  ⟨h.bel.trans (hb.mono h.bel.size), h.od.below hb, h.ox.below hb, h.sp.below hb, h.nd, h.nx, h.ne, h.sd, h.sx⟩
/-- the leaves of a list of indices, one by one -/
theorem lvs_take (is : List Nat) {j i : Nat} (h : is[j]? = some i) : lvs (is.take (j + 1)) = lvs (is.take j) ++ [(i, i + 1)] := by
  rw [List.take_add_one, h, Option.toList_some, lvs_snoc]
theorem range_snoc (a n : Nat) : lvs (List.range' a (n + 1)) = lvs (List.range' a n) ++ [(a + n, a + n + 1)] := by
  rw [List.range'_concat, lvs_snoc, Nat.one_mul]
theorem sv_take (X : List (List UInt8)) (A : List (Nat × Nat)) {j : Nat} {s : Nat × Nat} (h : A[j]? = some s) : (A.take (j + 1)).map (shX X) = (A.take j).map (shX X) ++ [shX X s] := by
  rw [List.take_add_one, h, Option.toList_some, List.map_append]; rfl
end Go.Proofs.YtejdecfpegpgcaaDoor
