import Derived.Test.YtnecfodlhjjpcaaDoorCO20
namespace Go.Proofs.YtnecfodlhjjpcaaDoor.Tree
/-- the path, each hash with its side -/
def zpF : Nat → Nat → List T → List (Bool × T)
  | 0, _, _ => []
  | f + 1, m, l => if l.length < 2 then [] else
    if m < sp l.length then zpF f m (l.take (sp l.length)) ++ [(true, root (l.drop (sp l.length)))] else zpF f (m - sp l.length) (l.drop (sp l.length)) ++ [(false, root (l.take (sp l.length)))]
def zp (m : Nat) (l : List T) : List (Bool × T) := zpF l.length m l
theorem zpF_eq : ∀ (f g m : Nat) (l : List T), l.length ≤ f → l.length ≤ g → zpF f m l = zpF g m l
  | 0, 0, _, _, _, _ => rfl
  | 0, g + 1, m, l, h, _ => by rw [zpF, zpF, if_pos (by omega)]
  | f + 1, 0, m, l, _, h => by rw [zpF, zpF, if_pos (by omega)]
  | f + 1, g + 1, m, l, h1, h2 => by
    rw [zpF, zpF]
    by_cases h : l.length < 2
    · rw [if_pos h, if_pos h]
    · have a := sp_lt (n := l.length) (by omega)
      have b := sp_pos (n := l.length) (by omega)
      rw [if_neg h, if_neg h, zpF_eq f g _ _ (by simp; omega) (by simp; omega), zpF_eq f g _ (l.drop _) (by simp; omega) (by simp; omega)]
theorem zp_small {m : Nat} {l : List T} (h : l.length < 2) : zp m l = [] := by
  rw [zp, zpF_eq _ 1 _ _ (Nat.le_refl _) (by omega), zpF, if_pos h]
theorem zp_cut {m : Nat} {l : List T} (h : 2 ≤ l.length) : zp m l = if m < sp l.length then zp m (l.take (sp l.length)) ++ [(true, root (l.drop (sp l.length)))] else zp (m - sp l.length) (l.drop (sp l.length)) ++ [(false, root (l.take (sp l.length)))] := by
  have a := sp_lt h
  have b := sp_pos h
  have e : zp m l = zpF (l.length - 1 + 1) m l := zpF_eq _ _ _ _ (by omega) (by omega)
  rw [e, zpF, if_neg (by omega), zp, zp, zpF_eq (l.length - 1) _ _ (l.take _) (by simp; omega) (Nat.le_refl _), zpF_eq (l.length - 1) _ _ (l.drop _) (by simp; omega) (Nat.le_refl _)]
theorem path_zp : ∀ (f m : Nat) (l : List T), l.length ≤ f → path m l = (zp m l).map (·.2)
  | 0, m, l, h => by rw [path_small (by omega), zp_small (by omega)]; rfl
  | f + 1, m, l, h => by
    by_cases h2 : l.length < 2
    · rw [path_small h2, zp_small h2]; rfl
    · have a := sp_lt (n := l.length) (by omega)
      have b := sp_pos (n := l.length) (by omega)
      rw [path_cut (by omega), zp_cut (by omega)]
      split
      · rw [path_zp f m _ (by simp; omega)]; simp
      · rw [path_zp f _ (l.drop _) (by simp; omega)]; simp
/-- going up -/
def up (h : T) (zs : List (Bool × T)) : T := zs.foldl (fun h z => if z.1 then nd h z.2 else nd z.2 h) h
theorem up_step (h : T) (zs : List (Bool × T)) (z : Bool × T) : up h (zs ++ [z]) = if z.1 then nd (up h zs) z.2 else nd z.2 (up h zs) := by
  simp [up]
theorem up_root : ∀ (f m : Nat) (l : List T) (h : m < l.length), l.length ≤ f → up l[m] (zp m l) = root l
  | 0, m, l, h, hf => by omega
  | f + 1, m, l, h, hf => by
    by_cases h2 : l.length < 2
    · have h1 : l.length = 1 := by omega
      obtain ⟨a, rfl⟩ := List.length_eq_one_iff.1 h1
      have : m = 0 := by simp at h; omega
      subst this
      rw [zp_small h2]; rfl
    · have a := sp_lt (n := l.length) (by omega)
      have b := sp_pos (n := l.length) (by omega)
      rw [zp_cut (by omega), root_cut (l := l) (by omega)]
      by_cases hm : m < sp l.length
      · rw [if_pos hm, up_step]
        have := up_root f m (l.take (sp l.length)) (by simp; omega) (by simp; omega)
        rw [List.getElem_take] at this
        rw [this]; rfl
      · rw [if_neg hm, up_step]
        have := up_root f (m - sp l.length) (l.drop (sp l.length)) (by simp; omega) (by simp; omega)
        rw [List.getElem_drop] at this
        have e : sp l.length + (m - sp l.length) = m := by omega
        simp only [e] at this
        rw [this]; rfl
def rgt (zs : List (Bool × T)) : List T := (zs.filter (·.1)).map (·.2)
def lft (zs : List (Bool × T)) : List T := ((zs.filter (fun z => !z.1)).map (·.2)).reverse
theorem many_zp : ∀ (f m b : Nat) (l : List T), l.length ≤ f → m < l.length → many [b + m] b l = lft (zp m l) ++ rgt (zp m l)
  | 0, m, b, l, hf, h => by omega
  | f + 1, m, b, l, hf, h => by
    by_cases h2 : l.length < 2
    · rw [zp_small h2, many_one (by simp) (by omega)]; rfl
    · have x := sp_lt (n := l.length) (by omega)
      have y := sp_pos (n := l.length) (by omega)
      rw [zp_cut (by omega), many_cut (by simp) (by omega)]
      by_cases hm : m < sp l.length
      · have ih := many_zp f m b (l.take (sp l.length)) (by simp; omega) (by simp; omega)
        rw [if_pos hm, List.filter_cons_of_pos (by simp; omega), List.filter_nil, List.filter_cons_of_neg (by simp; omega), List.filter_nil, ih, many_none (by simp; omega)]
        simp [lft, rgt]
      · have ih := many_zp f (m - sp l.length) (b + sp l.length) (l.drop (sp l.length)) (by simp; omega) (by simp; omega)
        rw [show b + sp l.length + (m - sp l.length) = b + m from by omega] at ih
        rw [if_neg hm, List.filter_cons_of_neg (by simp; omega), List.filter_nil, List.filter_cons_of_pos (by simp; omega), List.filter_nil, ih, many_none (by simp; omega)]
        simp [lft, rgt]
theorem lr_len (zs : List (Bool × T)) : (lft zs ++ rgt zs).length = zs.length := by
  induction zs with
  | nil => rfl
  | cons z zs ih =>
    obtain ⟨b, t⟩ := z
    cases b <;> simp [lft, rgt] at * <;> omega
/-- how many digits -/
def dg (x : Nat) : Nat := if x = 0 then 0 else x.log2 + 1
theorem dg_le {x L : Nat} (h : x < 2 ^ L) : dg x ≤ L := by
  unfold dg
  split
  · omega
  · rename_i h0
    have := (Nat.log2_lt h0).2 h
    omega
theorem dg_half {x : Nat} (h : 0 < x) : dg x = dg (x / 2) + 1 := by
  unfold dg
  rw [if_neg (by omega)]
  rw [Nat.log2_def]
  by_cases h2 : 2 ≤ x
  · rw [if_pos h2, if_neg (by omega)]
  · rw [if_neg h2, if_pos (by omega)]
theorem zp_dg : ∀ (f m : Nat) (l : List T), l.length ≤ f → (zp m l).length ≤ dg (l.length - 1)
  | 0, m, l, h => by rw [zp_small (by omega)]; simp
  | f + 1, m, l, h => by
    by_cases h2 : l.length < 2
    · rw [zp_small h2]; simp
    · have a := sp_lt (n := l.length) (by omega)
      have b := sp_pos (n := l.length) (by omega)
      have c := sp_ge (n := l.length) (by omega)
      have d := sp_eq (n := l.length) (by omega)
      have e : dg (l.length - 1) = (l.length - 1).log2 + 1 := by unfold dg; rw [if_neg (by omega)]
      rw [zp_cut (by omega), e]
      split
      · have ih := zp_dg f m (l.take (sp l.length)) (by simp; omega)
        have : dg ((l.take (sp l.length)).length - 1) ≤ (l.length - 1).log2 := dg_le (by rw [List.length_take, ← d]; omega)
        rw [List.length_append, List.length_singleton]; omega
      · have ih := zp_dg f (m - sp l.length) (l.drop (sp l.length)) (by simp; omega)
        have : dg ((l.drop (sp l.length)).length - 1) ≤ (l.length - 1).log2 := dg_le (by rw [List.length_drop, ← d]; omega)
        rw [List.length_append, List.length_singleton]; omega
end Go.Proofs.YtnecfodlhjjpcaaDoor.Tree

namespace Go.Proofs.YtnecfodlhjjpcaaDoor
open Go.RowKit
set_option maxRecDepth 100000 in
set_option maxHeartbeats 800000 in
theorem same_yes (l : List (List UInt8)) (a d : Option Addr) (ca cd : Nat) (w : World) (ha : At w a l) (hd : At w d l) (hll : l.length ≤ 9223372036854775807) :
    Calls Tryd.prog 17 #[.slice a l.length ca, .slice d l.length cd] w fun e w' => e = .returned (.bool true) ∧ Below w.heap.size w w' ∧ w'.heap = w.heap := by
  have Ha := hid ha
  have Hd := hid hd
  clear ha hd
  go_enter Tryd.func17, Tryd.ntmps17
  go_wp2
  go_loopw [5] (fun i w' => ∃ k : Nat, k ≤ l.length ∧ i = .int .i64 k ∧ Hid (Below w.heap.size w w' ∧ w'.heap = w.heap)) (fun i _ => l.length - (intOf i).toNat)
  case atStart => exact ⟨0, by omega, rfl, hid ⟨Below.refl _ _, rfl⟩⟩
  case round =>
    obtain ⟨k, hk, rfl, hw'⟩ := hrel
    by_cases hlt : k < l.length
    · have b0 : (k : Int) < (l.length : Int) := by omega
      obtain ⟨x, rfl, xb, hx⟩ := Ha.out k l[k] (List.getElem?_eq_getElem hlt)
      rw [← hw'.out.1.cell (p := x.add k) (by rw [addr_block]; exact xb)] at hx
      clear xb
      obtain ⟨y, rfl, yb, hy⟩ := Hd.out k l[k] (List.getElem?_eq_getElem hlt)
      rw [← hw'.out.1.cell (p := y.add k) (by rw [addr_block]; exact yb)] at hy
      clear yb
      rw [svS] at hx hy
      generalize ByteArray.mk (l[k]).toArray = p at *
      have y1 : (p.toList == p.toList) = true := by simp
      have y2 : (p.toList != p.toList) = false := by simp
      go_wp2
      go_quiet (fail)
      go_wp2
      exact ⟨⟨k + 1, by omega, by go_num, hid ⟨below_drewN hw'.out.1 _, hw'.out.2⟩⟩, by simp [intOf]; omega⟩
    · have b0 : ¬ (k : Int) < (l.length : Int) := by omega
      go_wp2
      go_ret
      exact ⟨rfl, hw'.out.1, hw'.out.2⟩
def bls (L : List Bool) : List Value := L.map .bool
theorem bls_length (L : List Bool) : (bls L).length = L.length := by simp [bls]
theorem infoB : (Tryd.prog.info? 4).map (fun i => (i.zero, i.size, i.bytes)) = some (some (.bool false), 1, 1) := by kernel_rfl
/-- append(l, b) -/
theorem append_bool (w : World) (base : Nat) (v : Value) (L : List Bool) (p : Bool) (hown : Own w base v (bls L)) (hlen : L.length ≤ 2000000) (hbase : base ≤ w.heap.size) :
    ∃ v' w', (Builtin.append_ #[45, 45] 45 #[v, .slice (some ⟨w.heap.size, 0, none⟩) 1 1]).run Tryd.prog (w.alloc (.cells #[.bool p] 4)) = .ok v' w' ∧ Own w' base v' (bls (L ++ [p])) ∧ Below base w w' := by
  obtain ⟨i0, hi, hz0, hz1, hz2⟩ := info_parts infoB
  have hsrc : Src Tryd.prog 1 45 (.slice (some ⟨w.heap.size, 0, none⟩) 1 1) 1 [.bool p] (w.alloc (.cells #[.bool p] 4)) :=
    Src.ofSlice _ Tryd.underlying45 ⟨w.heap.size, 0, none⟩ 1 1 [.bool p] (by simp) (fun j u hj => by
      rw [Addr.add_mid, cell_of_row _ _ _ _ _ _ (heap_alloc_new w _), Nat.zero_add]; simpa using hj) (fun u hu => by simp at hu; subst hu; rfl)
  obtain ⟨v', w', h1, h2, h3, h4⟩ := run_append_O (P := Tryd.prog) (w.alloc (.cells #[.bool p] 4)) base 45 45 45 4 i0 (.bool false) Tryd.underlying45 hi hz0 hz1 rfl v (bls L) (hown.alloc _) _ 1 [.bool p] hsrc
    (by rw [bls_length, hz2]; omega) (by rw [bls_length, maxLen]; omega) (by rw [size_alloc]; omega) (fun _ => by omega)
  refine ⟨v', w', h1, by simpa [bls] using h2, ?_⟩
  exact ((Below.refl base w).alloc hbase _).trans (Below.ofGrown h3 hown.ge (by rw [size_alloc]; omega))
/-- a list of yes and no -/
def OutB (w : World) (L : List Bool) (e : Ending) (w' : World) : Prop := ∃ v, e = .returned v ∧ Own w' w.heap.size v (bls L) ∧ Below w.heap.size w w'
def sides (m : Nat) (l : List (List UInt8)) : List Bool := (Tree.zp m l).map (·.1)
end Go.Proofs.YtnecfodlhjjpcaaDoor

namespace Go.Proofs.YtnecfodlhjjpcaaDoor
open Go.RowKit

set_option maxRecDepth 100000 in
set_option maxHeartbeats 800000 in
theorem reads_yes (n : Nat) (m : ByteArray) (a : Option Addr) (ca : Nat) (w : World) (ha : At w a (List.replicate n m.data.toList)) (hn : n ≤ 9223372036854775807) :
    Calls Tryd.prog 58 #[.slice a n ca, .string m] w fun e w' => e = .returned (.bool true) ∧ Below w.heap.size w w' ∧ w'.heap = w.heap := by
  have Ha := hid ha
  clear ha
  have y1 : (m.toList == m.toList) = true := by simp
  have y2 : (m.toList != m.toList) = false := by simp
  go_enter Tryd.func58, Tryd.ntmps58
  go_wp2
  go_loopw [5] (fun i w' => ∃ k : Nat, k ≤ n ∧ i = .int .i64 k ∧ Hid (Below w.heap.size w w' ∧ w'.heap = w.heap)) (fun i _ => n - (intOf i).toNat)
  case atStart => exact ⟨0, by omega, rfl, hid ⟨Below.refl _ _, rfl⟩⟩
  case round =>
    obtain ⟨k, hk, rfl, hw'⟩ := hrel
    by_cases hlt : k < n
    · have b0 : (k : Int) < (n : Int) := by omega
      obtain ⟨x, rfl, xb, hx⟩ := Ha.out k m.data.toList (by rw [List.getElem?_replicate, if_pos hlt])
      rw [← hw'.out.1.cell (p := x.add k) (by rw [addr_block]; exact xb)] at hx
      clear xb
      rw [svS, show ByteArray.mk m.data.toList.toArray = m from by cases m; simp] at hx
      go_wp2
      exact ⟨⟨k + 1, by omega, by go_num, hw'⟩, by simp [intOf]; omega⟩
    · have b0 : ¬ (k : Int) < (n : Int) := by omega
      go_wp2
      go_ret
      exact ⟨rfl, hw'.out.1, hw'.out.2⟩
theorem conv_two (n : Nat) (hn : n ≤ 255) (w : World) : (convert 85 9 (.slice (some ⟨w.heap.size, 0, none⟩) 2 2)).run Tryd.prog (w.alloc (.cells #[.int .u8 (n : Int), .int .u8 0] 5)) = .ok (sv [UInt8.ofNat n, 0]) (w.alloc (.cells #[.int .u8 (n : Int), .int .u8 0] 5)) := by
  refine run_conv_bytes (P := Tryd.prog) _ 85 9 5 w.heap.size 0 2 2 [UInt8.ofNat n, 0] rfl Tryd.underlying85 Tryd.underlying5 Tryd.underlying9 ?_
  intro j v hv
  have hX := heap_alloc_new w (.cells #[.int .u8 (n : Int), .int .u8 0] 5)
  match j, hv with
  | 0, hv =>
    have e : v = .int .u8 (n : Int) := by
      simp [bv] at hv
      rw [← hv]; congr 1; omega
    rw [e, cell_of_row _ _ _ _ _ _ hX]; rfl
  | 1, hv =>
    have e : v = .int .u8 0 := by simp [bv] at hv; rw [← hv]
    rw [e, cell_of_row _ _ _ _ _ _ hX]; rfl
  | j + 2, hv => simp [bv] at hv
set_option maxRecDepth 100000 in
set_option maxHeartbeats 800000 in
theorem mark_any (n : Nat) (hn : n ≤ 255) (w : World) :
    Calls Tryd.prog 57 #[.int .i64 n] w fun e w' => ∃ m : ByteArray, e = .returned (.string m) ∧ m.data.toList = [109, 97, 114, 107, UInt8.ofNat n, 0] ∧ Below w.heap.size w w' := by
  have hcv := conv_two n hn w
  have e0 : (n : Int) / 256 = 0 := by omega
  rw [svS] at hcv
  go_enter Tryd.func57, Tryd.ntmps57
  go_wp2
  go_ret
  exact ⟨_, rfl, by simp [ByteArray.data_append], (Below.refl _ _).alloc (Nat.le_refl _) _⟩
end Go.Proofs.YtnecfodlhjjpcaaDoor
