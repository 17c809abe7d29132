import Derived.Test.YtkiibcfjjplkaaaDoorCO16
import Derived.Deep.RegionLaw
namespace Go.Proofs.YtkiibcfjjplkaaaDoor.Tree
/-- how many stand ahead of the first that is not below p -/
def cnt (p : Nat) (is : List Nat) : Nat := (is.takeWhile (fun i => decide (i < p))).length
theorem cnt_of (p : Nat) : ∀ (is : List Nat) (k : Nat), k ≤ is.length → (∀ j x, j < k → is[j]? = some x → x < p) → (∀ x, is[k]? = some x → ¬ x < p) → cnt p is = k
  | [], k, h, _, _ => by simp at h; subst h; rfl
  | i :: is, 0, _, _, h => by
    have := h i rfl
    simp [cnt, this]
  | i :: is, k + 1, hk, h1, h2 => by
    have hi := h1 0 i (by omega) rfl
    have := cnt_of p is k (by simpa using hk) (fun j x hj hx => h1 (j + 1) x (by omega) (by simpa using hx)) (fun x hx => h2 x (by simpa using hx))
    rw [cnt] at this ⊢
    rw [List.takeWhile_cons_of_pos (by simpa using hi), List.length_cons, this]
theorem cnt_le (p : Nat) (is : List Nat) : cnt p is ≤ is.length := by
  induction is with
  | nil => simp [cnt]
  | cons i is ih =>
    by_cases h : i < p
    · rw [cnt] at ih ⊢; rw [List.takeWhile_cons_of_pos (by simpa using h)]; simpa using ih
    · rw [cnt, List.takeWhile_cons_of_neg (by simpa using h)]; simp
theorem cnt_take (p : Nat) : ∀ (is : List Nat), is.Pairwise (· < ·) → is.take (cnt p is) = is.filter (· < p)
  | [], _ => rfl
  | i :: is, hp => by
    rw [List.pairwise_cons] at hp
    by_cases h : i < p
    · rw [cnt, List.takeWhile_cons_of_pos (by simpa using h), List.length_cons, List.take_succ_cons, List.filter_cons_of_pos (by simpa using h)]
      congr 1
      exact cnt_take p is hp.2
    · rw [cnt, List.takeWhile_cons_of_neg (by simpa using h)]
      symm
      rw [List.length_nil, List.take_zero, List.filter_eq_nil_iff]
      intro x hx
      rcases List.mem_cons.1 hx with rfl | hx
      · simpa using h
      · have := hp.1 x hx
        simp; omega
theorem cnt_drop (p : Nat) : ∀ (is : List Nat), is.Pairwise (· < ·) → is.drop (cnt p is) = is.filter (p ≤ ·)
  | [], _ => rfl
  | i :: is, hp => by
    rw [List.pairwise_cons] at hp
    by_cases h : i < p
    · rw [cnt, List.takeWhile_cons_of_pos (by simpa using h), List.length_cons, List.drop_succ_cons, List.filter_cons_of_neg (by simp; omega)]
      exact cnt_drop p is hp.2
    · rw [cnt, List.takeWhile_cons_of_neg (by simpa using h)]
      symm
      rw [List.length_nil, List.drop_zero, List.filter_eq_self]
      intro x hx
      rcases List.mem_cons.1 hx with rfl | hx
      · simp; omega
      · have := hp.1 x hx
        simp; omega
end Go.Proofs.YtkiibcfjjplkaaaDoor.Tree
namespace Go.Proofs.YtkiibcfjjplkaaaDoor
open Go.RowKit
/-- indices as whole numbers -/
def ix (is : List Nat) : List Int := is.map fun (i : Nat) => (i : Int)
theorem ix_len (is : List Nat) : (ix is).length = is.length := by simp [ix]
theorem AtI.nil (w : World) (a : Option Addr) : AtI w a [] := fun j p h => by simp at h
theorem AtI.heap {w w' : World} {a : Option Addr} {l : List Int} (h : AtI w a l) (e : w'.heap = w.heap) : AtI w' a l := fun j p hp => by
  obtain ⟨x, rfl, hx, hc⟩ := h j p hp
  refine ⟨x, rfl, by rw [e]; exact hx, ?_⟩
  rw [← hc]
  exact World.cell?_of_block (w := w) (by rw [e])
theorem AtI.take {w : World} {a : Option Addr} {l : List Int} (h : AtI w a l) (k : Nat) : AtI w a (l.take k) := fun j p hp => by
  rw [List.getElem?_take] at hp
  split at hp
  · exact h j p hp
  · cases hp
theorem AtI.drop {w : World} {x : Addr} {l : List Int} (h : AtI w (some x) l) (k : Nat) : AtI w (some (x.add k)) (l.drop k) := fun j p hp => by
  rw [List.getElem?_drop] at hp
  obtain ⟨y, hy, hx, hc⟩ := h (k + j) p hp
  obtain rfl := Option.some.inj hy
  exact ⟨_, rfl, by rw [addr_block]; exact hx, by rw [addr_add]; exact hc⟩
end Go.Proofs.YtkiibcfjjplkaaaDoor

namespace Go.Proofs.YtkiibcfjjplkaaaDoor
open Go.RowKit
theorem append_zero (w : World) (x : Value) (hs : Src Tryd.prog 1 28 x 0 [] w) :
    (Builtin.append_ #[28, 28] 28 #[.slice none 0 0, x]).run Tryd.prog w = .ok (.slice none 0 0) w := by
  obtain ⟨i0, hi, hz0, hz1, hz2⟩ := info_parts infoS
  have hc := hs.cells
  rw [← hz1] at hc
  simp [Builtin.append_, run_underlying Tryd.underlying28, sizeOf, typeInfo, hi, hs.len, hc]
theorem svs_one {L : List (List UInt8)} {v : Value} (h : v ∈ svs L) : v.oneCell' = true := by
  simp only [svs, List.mem_map] at h
  obtain ⟨n, _, rfl⟩ := h
  rfl
/-- append(l, m...) -/
theorem append_list (w : World) (base base2 : Nat) (v v2 : Value) (L L2 : List (List UInt8)) (hown : Own w base v (svs L)) (hown2 : Own w base2 v2 (svs L2)) (hlen : L.length + L2.length ≤ 2000000) (hbase : base ≤ w.heap.size) :
    ∃ v' w', (Builtin.append_ #[28, 28] 28 #[v, v2]).run Tryd.prog w = .ok v' w' ∧ Own w' base v' (svs (L ++ L2)) ∧ Below base w w' := by
  obtain ⟨i0, hi, hz0, hz1, hz2⟩ := info_parts infoS
  have hsrc : Src Tryd.prog 1 28 v2 L2.length (svs L2) w := by
    rcases hown2 with ⟨rfl, h⟩ | ⟨g, cap, rfl, h1, h2, h3, h4, h5, h6⟩
    · obtain rfl : L2 = [] := by simpa [svs] using h
      exact Src.ofNil w Tryd.underlying28 0
    · rw [svs_length]
      exact Src.ofSlice w Tryd.underlying28 ⟨g, 0, none⟩ L2.length cap (svs L2) (by rw [svs_length, Nat.mul_one]) (fun j u hj => by rw [Addr.add_mid]; exact h4 j u hj) (fun u hu => svs_one hu)
  by_cases h0 : v = .slice none 0 0 ∧ L2.length = 0
  · obtain ⟨rfl, h0⟩ := h0
    obtain rfl : L2 = [] := List.length_eq_zero_iff.1 h0
    have hL : L = [] := by
      rcases hown with ⟨_, h⟩ | ⟨g, cap, h, _⟩
      · simpa [svs] using h
      · cases h
    subst hL
    exact ⟨_, w, append_zero w v2 hsrc, Own.nil _ _, Below.refl _ _⟩
  · obtain ⟨v', w', h1, h2, h3, h4⟩ := run_append_O (P := Tryd.prog) w base 28 28 28 9 i0 (.string ⟨#[]⟩) Tryd.underlying28 hi hz0 hz1 rfl v (svs L) hown v2 L2.length (svs L2) hsrc
      (by rw [svs_length, hz2]; omega) (by rw [svs_length, maxLen]; omega) hbase (fun e => by
        have : ¬ L2.length = 0 := fun h => h0 ⟨e, h⟩
        omega)
    exact ⟨v', w', h1, by simpa [svs] using h2, Below.ofGrown h3 hown.ge hbase⟩
/-- an append whose run is known, as one step of a region that draws -/
theorem step_append_run {P : Program} {ops : Array Oper} {o : Oper} {a : Act} {w : World} {K : Act → World → Prop} {Q : Exit → Act → World → Prop} {E : Prop}
    (hg : o.guard = none) (s x : Operand) (t : TypeId) (hop : o.op = Op.call { callee := Callee.builtin Builtin.append, args := #[s, x], argTypes := #[t, t] })
    (v1 v2 v' : Value) (w' : World) (hs : a.eval s = v1) (hx : a.eval x = v2) (hrun : (Builtin.append_ #[t, t] o.type #[v1, v2]).run P w = .ok v' w') (hK : K (a.put o.dst v') w') :
    if Region.wanted o (yielded ops a.tmps) = true then Oper.wp P o a w K Q else E := by
  have hw : Region.wanted o (yielded ops a.tmps) = true := by simp [Region.wanted, hg]
  rw [if_pos hw]
  unfold Oper.wp
  simp [execOp, hop, resolve, invoke, builtin, hs, hx, hrun, Result.andThen]
  exact hK
end Go.Proofs.YtkiibcfjjplkaaaDoor

namespace Go.Proofs.YtkiibcfjjplkaaaDoor
open Go.RowKit
/-- T4: some, not too many, each a leaf's, rising -/
structure OkI (n : Nat) (cs : List Int) : Prop where
  pos : 0 < cs.length
  few : cs.length ≤ 256
  leaf : ∀ (j : Nat) (x : Int), cs[j]? = some x → 0 ≤ x ∧ x < n
  rise : ∀ (j : Nat) (x y : Int), cs[j]? = some x → cs[j + 1]? = some y → x < y
theorem pw_of : ∀ (is : List Nat), (∀ (j x y : Nat), is[j]? = some x → is[j + 1]? = some y → x < y) → is.Pairwise (· < ·)
  | [], _ => List.Pairwise.nil
  | [i], _ => by simp
  | i :: k :: t, h => by
    have ih := pw_of (k :: t) (fun j x y hx hy => h (j + 1) x y (by simpa using hx) (by simpa using hy))
    have hik := h 0 i k rfl rfl
    rw [List.pairwise_cons]
    refine ⟨fun y hy => ?_, ih⟩
    rcases List.mem_cons.1 hy with rfl | hy
    · exact hik
    · exact Nat.lt_trans hik ((List.pairwise_cons.1 ih).1 y hy)
def toN (cs : List Int) : List Nat := cs.map Int.toNat
theorem toN_len (cs : List Int) : (toN cs).length = cs.length := by simp [toN]
theorem OkI.ix {n : Nat} {cs : List Int} (h : OkI n cs) : ix (toN cs) = cs := by
  unfold Go.Proofs.YtkiibcfjjplkaaaDoor.ix toN
  rw [List.map_map]
  conv => rhs; rw [← List.map_id cs]
  refine List.map_congr_left fun x hx => ?_
  obtain ⟨j, hj, rfl⟩ := List.getElem_of_mem hx
  have := (h.leaf j _ (List.getElem?_eq_getElem hj)).1
  show ((cs[j].toNat : Nat) : Int) = cs[j]
  omega
theorem OkI.sorted {n : Nat} {cs : List Int} (h : OkI n cs) : (toN cs).Pairwise (· < ·) := by
  refine pw_of _ fun j x y hx hy => ?_
  simp only [toN, List.getElem?_map, Option.map_eq_some_iff] at hx hy
  obtain ⟨a, ha, rfl⟩ := hx
  obtain ⟨b, hb, rfl⟩ := hy
  have h1 := h.rise j a b ha hb
  have h2 := (h.leaf j a ha).1
  omega
theorem OkI.lt {n : Nat} {cs : List Int} (h : OkI n cs) : ∀ i ∈ toN cs, i < n := fun i hi => by
  simp only [toN, List.mem_map] at hi
  obtain ⟨x, hx, rfl⟩ := hi
  obtain ⟨j, hj, rfl⟩ := List.getElem_of_mem hx
  have := h.leaf j _ (List.getElem?_eq_getElem hj)
  omega
/-- yes or no -/
def SaidB (P : Prop) (w : World) (e : Ending) (w' : World) : Prop := (∃ b : Bool, e = .returned (.bool b) ∧ (b = true ↔ P)) ∧ w' = w
end Go.Proofs.YtkiibcfjjplkaaaDoor

namespace Go.Proofs.YtkiibcfjjplkaaaDoor
open Go.RowKit
open Classical in
/-- T4 -/
noncomputable def manyOut (l : List (List UInt8)) (cs : List Int) : List (List UInt8) × Int := if wrg l = 0 then (if OkI l.length cs then (Tree.many (toN cs) 0 l, 0) else ([], 30)) else ([], wrg l)
end Go.Proofs.YtkiibcfjjplkaaaDoor

namespace Go.Proofs.YtkiibcfjjplkaaaDoor.Tree
/-- the path, each hash with its side -/
def zpF : Nat → Nat → List T → List (Bool × T)
  | 0, _, _ => []
  | f + 1, m, l => if l.length < 2 then [] else
    if m < sp l.length then zpF f m (l.take (sp l.length)) ++ [(true, root (l.drop (sp l.length)))] else zpF f (m - sp l.length) (l.drop (sp l.length)) ++ [(false, root (l.take (sp l.length)))]
def zp (m : Nat) (l : List T) : List (Bool × T) := zpF l.length m l
theorem zpF_eq : ∀ (f g m : Nat) (l : List T), l.length ≤ f → l.length ≤ g → zpF f m l = zpF g m l
  | 0, 0, _, _, _, _ => rfl
  | 0, g + 1, m, l, h, _ => by rw [zpF, zpF, if_pos (by omega)]
  | f + 1, 0, m, l, _, h => by rw [zpF, zpF, if_pos (by omega)]
  | f + 1, g + 1, m, l, h1, h2 => by
    rw [zpF, zpF]
    by_cases h : l.length < 2
    · rw [if_pos h, if_pos h]
    · have a := sp_lt (n := l.length) (by omega)
      have b := sp_pos (n := l.length) (by omega)
      rw [if_neg h, if_neg h, zpF_eq f g _ _ (by simp; omega) (by simp; omega), zpF_eq f g _ (l.drop _) (by simp; omega) (by simp; omega)]
theorem zp_small {m : Nat} {l : List T} (h : l.length < 2) : zp m l = [] := by
  rw [zp, zpF_eq _ 1 _ _ (Nat.le_refl _) (by omega), zpF, if_pos h]
theorem zp_cut {m : Nat} {l : List T} (h : 2 ≤ l.length) : zp m l = if m < sp l.length then zp m (l.take (sp l.length)) ++ [(true, root (l.drop (sp l.length)))] else zp (m - sp l.length) (l.drop (sp l.length)) ++ [(false, root (l.take (sp l.length)))] := by
  have a := sp_lt h
  have b := sp_pos h
  have e : zp m l = zpF (l.length - 1 + 1) m l := zpF_eq _ _ _ _ (by omega) (by omega)
  rw [e, zpF, if_neg (by omega), zp, zp, zpF_eq (l.length - 1) _ _ (l.take _) (by simp; omega) (Nat.le_refl _), zpF_eq (l.length - 1) _ _ (l.drop _) (by simp; omega) (Nat.le_refl _)]
theorem path_zp : ∀ (f m : Nat) (l : List T), l.length ≤ f → path m l = (zp m l).map (·.2)
  | 0, m, l, h => by rw [path_small (by omega), zp_small (by omega)]; rfl
  | f + 1, m, l, h => by
    by_cases h2 : l.length < 2
    · rw [path_small h2, zp_small h2]; rfl
    · have a := sp_lt (n := l.length) (by omega)
      have b := sp_pos (n := l.length) (by omega)
      rw [path_cut (by omega), zp_cut (by omega)]
      split
      · rw [path_zp f m _ (by simp; omega)]; simp
      · rw [path_zp f _ (l.drop _) (by simp; omega)]; simp
/-- going up -/
def up (h : T) (zs : List (Bool × T)) : T := zs.foldl (fun h z => if z.1 then nd h z.2 else nd z.2 h) h
theorem up_step (h : T) (zs : List (Bool × T)) (z : Bool × T) : up h (zs ++ [z]) = if z.1 then nd (up h zs) z.2 else nd z.2 (up h zs) := by
  simp [up]
theorem up_root : ∀ (f m : Nat) (l : List T) (h : m < l.length), l.length ≤ f → up l[m] (zp m l) = root l
  | 0, m, l, h, hf => by omega
  | f + 1, m, l, h, hf => by
    by_cases h2 : l.length < 2
    · have h1 : l.length = 1 := by omega
      obtain ⟨a, rfl⟩ := List.length_eq_one_iff.1 h1
      have : m = 0 := by simp at h; omega
      subst this
      rw [zp_small h2]; rfl
    · have a := sp_lt (n := l.length) (by omega)
      have b := sp_pos (n := l.length) (by omega)
      rw [zp_cut (by omega), root_cut (l := l) (by omega)]
      by_cases hm : m < sp l.length
      · rw [if_pos hm, up_step]
        have := up_root f m (l.take (sp l.length)) (by simp; omega) (by simp; omega)
        rw [List.getElem_take] at this
        rw [this]; rfl
      · rw [if_neg hm, up_step]
        have := up_root f (m - sp l.length) (l.drop (sp l.length)) (by simp; omega) (by simp; omega)
        rw [List.getElem_drop] at this
        have e : sp l.length + (m - sp l.length) = m := by omega
        simp only [e] at this
        rw [this]; rfl
def rgt (zs : List (Bool × T)) : List T := (zs.filter (·.1)).map (·.2)
def lft (zs : List (Bool × T)) : List T := ((zs.filter (fun z => !z.1)).map (·.2)).reverse
theorem many_zp : ∀ (f m b : Nat) (l : List T), l.length ≤ f → m < l.length → many [b + m] b l = lft (zp m l) ++ rgt (zp m l)
  | 0, m, b, l, hf, h => by omega
  | f + 1, m, b, l, hf, h => by
    by_cases h2 : l.length < 2
    · rw [zp_small h2, many_one (by simp) (by omega)]; rfl
    · have x := sp_lt (n := l.length) (by omega)
      have y := sp_pos (n := l.length) (by omega)
      rw [zp_cut (by omega), many_cut (by simp) (by omega)]
      by_cases hm : m < sp l.length
      · have ih := many_zp f m b (l.take (sp l.length)) (by simp; omega) (by simp; omega)
        rw [if_pos hm, List.filter_cons_of_pos (by simp; omega), List.filter_nil, List.filter_cons_of_neg (by simp; omega), List.filter_nil, ih, many_none (by simp; omega)]
        simp [lft, rgt]
      · have ih := many_zp f (m - sp l.length) (b + sp l.length) (l.drop (sp l.length)) (by simp; omega) (by simp; omega)
        rw [show b + sp l.length + (m - sp l.length) = b + m from by omega] at ih
        rw [if_neg hm, List.filter_cons_of_neg (by simp; omega), List.filter_nil, List.filter_cons_of_pos (by simp; omega), List.filter_nil, ih, many_none (by simp; omega)]
        simp [lft, rgt]
theorem lr_len (zs : List (Bool × T)) : (lft zs ++ rgt zs).length = zs.length := by
  induction zs with
  | nil => rfl
  | cons z zs ih =>
    obtain ⟨b, t⟩ := z
    cases b <;> simp [lft, rgt] at * <;> omega
/-- how many digits -/
def dg (x : Nat) : Nat := if x = 0 then 0 else x.log2 + 1
theorem dg_le {x L : Nat} (h : x < 2 ^ L) : dg x ≤ L := by
  unfold dg
  split
  · omega
  · rename_i h0
    have := (Nat.log2_lt h0).2 h
    omega
theorem dg_half {x : Nat} (h : 0 < x) : dg x = dg (x / 2) + 1 := by
  unfold dg
  rw [if_neg (by omega)]
  rw [Nat.log2_def]
  by_cases h2 : 2 ≤ x
  · rw [if_pos h2, if_neg (by omega)]
  · rw [if_neg h2, if_pos (by omega)]
theorem zp_dg : ∀ (f m : Nat) (l : List T), l.length ≤ f → (zp m l).length ≤ dg (l.length - 1)
  | 0, m, l, h => by rw [zp_small (by omega)]; simp
  | f + 1, m, l, h => by
    by_cases h2 : l.length < 2
    · rw [zp_small h2]; simp
    · have a := sp_lt (n := l.length) (by omega)
      have b := sp_pos (n := l.length) (by omega)
      have c := sp_ge (n := l.length) (by omega)
      have d := sp_eq (n := l.length) (by omega)
      have e : dg (l.length - 1) = (l.length - 1).log2 + 1 := by unfold dg; rw [if_neg (by omega)]
      rw [zp_cut (by omega), e]
      split
      · have ih := zp_dg f m (l.take (sp l.length)) (by simp; omega)
        have : dg ((l.take (sp l.length)).length - 1) ≤ (l.length - 1).log2 := dg_le (by rw [List.length_take, ← d]; omega)
        rw [List.length_append, List.length_singleton]; omega
      · have ih := zp_dg f (m - sp l.length) (l.drop (sp l.length)) (by simp; omega)
        have : dg ((l.drop (sp l.length)).length - 1) ≤ (l.length - 1).log2 := dg_le (by rw [List.length_drop, ← d]; omega)
        rw [List.length_append, List.length_singleton]; omega
end Go.Proofs.YtkiibcfjjplkaaaDoor.Tree

namespace Go.Proofs.YtkiibcfjjplkaaaDoor
open Go.RowKit
set_option maxRecDepth 100000 in
set_option maxHeartbeats 800000 in
theorem same_yes (l : List (List UInt8)) (a d : Option Addr) (ca cd : Nat) (w : World) (ha : At w a l) (hd : At w d l) (hll : l.length ≤ 9223372036854775807) :
    Calls Tryd.prog 18 #[.slice a l.length ca, .slice d l.length cd] w fun e w' => e = .returned (.bool true) ∧ Below w.heap.size w w' ∧ w'.heap = w.heap := by
  have Ha := hid ha
  have Hd := hid hd
  clear ha hd
  go_enter Tryd.func18, Tryd.ntmps18
  go_wp2
  go_loopw [5] (fun i w' => ∃ k : Nat, k ≤ l.length ∧ i = .int .i64 k ∧ Hid (Below w.heap.size w w' ∧ w'.heap = w.heap)) (fun i _ => l.length - (intOf i).toNat)
  case atStart => exact ⟨0, by omega, rfl, hid ⟨Below.refl _ _, rfl⟩⟩
  case round =>
    obtain ⟨k, hk, rfl, hw'⟩ := hrel
    by_cases hlt : k < l.length
    · have b0 : (k : Int) < (l.length : Int) := by omega
      obtain ⟨x, rfl, xb, hx⟩ := Ha.out k l[k] (List.getElem?_eq_getElem hlt)
      rw [← hw'.out.1.cell (p := x.add k) (by rw [addr_block]; exact xb)] at hx
      clear xb
      obtain ⟨y, rfl, yb, hy⟩ := Hd.out k l[k] (List.getElem?_eq_getElem hlt)
      rw [← hw'.out.1.cell (p := y.add k) (by rw [addr_block]; exact yb)] at hy
      clear yb
      rw [svS] at hx hy
      generalize ByteArray.mk (l[k]).toArray = p at *
      have y1 : (p.toList == p.toList) = true := by simp
      have y2 : (p.toList != p.toList) = false := by simp
      go_wp2
      go_quiet (fail)
      go_wp2
      exact ⟨⟨k + 1, by omega, by go_num, hid ⟨below_drewN hw'.out.1 _, hw'.out.2⟩⟩, by simp [intOf]; omega⟩
    · have b0 : ¬ (k : Int) < (l.length : Int) := by omega
      go_wp2
      go_ret
      exact ⟨rfl, hw'.out.1, hw'.out.2⟩
def bls (L : List Bool) : List Value := L.map .bool
theorem bls_length (L : List Bool) : (bls L).length = L.length := by simp [bls]
theorem infoB : (Tryd.prog.info? 4).map (fun i => (i.zero, i.size, i.bytes)) = some (some (.bool false), 1, 1) := by kernel_rfl
/-- a list of yes and no -/
def OutB (w : World) (L : List Bool) (e : Ending) (w' : World) : Prop := ∃ v, e = .returned v ∧ Own w' w.heap.size v (bls L) ∧ Below w.heap.size w w'
def sides (m : Nat) (l : List (List UInt8)) : List Bool := (Tree.zp m l).map (·.1)
end Go.Proofs.YtkiibcfjjplkaaaDoor

namespace Go.Proofs.YtkiibcfjjplkaaaDoor
open Go.RowKit

theorem conv_two (n : Nat) (hn : n ≤ 255) (w : World) : (convert 74 9 (.slice (some ⟨w.heap.size, 0, none⟩) 2 2)).run Tryd.prog (w.alloc (.cells #[.int .u8 (n : Int), .int .u8 0] 5)) = .ok (sv [UInt8.ofNat n, 0]) (w.alloc (.cells #[.int .u8 (n : Int), .int .u8 0] 5)) := by
  refine run_conv_bytes (P := Tryd.prog) _ 74 9 5 w.heap.size 0 2 2 [UInt8.ofNat n, 0] rfl Tryd.underlying74 Tryd.underlying5 Tryd.underlying9 ?_
  intro j v hv
  have hX := heap_alloc_new w (.cells #[.int .u8 (n : Int), .int .u8 0] 5)
  match j, hv with
  | 0, hv =>
    have e : v = .int .u8 (n : Int) := by
      simp [bv] at hv
      rw [← hv]; congr 1; omega
    rw [e, cell_of_row _ _ _ _ _ _ hX]; rfl
  | 1, hv =>
    have e : v = .int .u8 0 := by simp [bv] at hv; rw [← hv]
    rw [e, cell_of_row _ _ _ _ _ _ hX]; rfl
  | j + 2, hv => simp [bv] at hv
end Go.Proofs.YtkiibcfjjplkaaaDoor

namespace Go.Proofs.YtkiibcfjjplkaaaDoor
open Go.RowKit
/-- append(l, s), and what stays -/
theorem append_text2 (w : World) (base : Nat) (v : Value) (L : List (List UInt8)) (p : List UInt8) (hown : Own w base v (svs L)) (hlen : L.length ≤ 2000000) (hbase : base ≤ w.heap.size) :
    ∃ v' w', (Builtin.append_ #[28, 28] 28 #[v, .slice (some ⟨w.heap.size, 0, none⟩) 1 1]).run Tryd.prog (w.alloc (.cells #[sv p] 9)) = .ok v' w' ∧ Own w' base v' (svs (L ++ [p])) ∧ Below base w w' ∧
      w.grownBy w' v.ownBlock ∧ (v'.ownBlock = v.ownBlock ∨ v'.ownBlock = some (w.heap.size + 1)) := by
  obtain ⟨i0, hi, hz0, hz1, hz2⟩ := info_parts infoS
  have hsrc : Src Tryd.prog 1 28 (.slice (some ⟨w.heap.size, 0, none⟩) 1 1) 1 [sv p] (w.alloc (.cells #[sv p] 9)) :=
    Src.ofSlice _ Tryd.underlying28 ⟨w.heap.size, 0, none⟩ 1 1 [sv p] (by simp) (fun j u hj => by
      rw [Addr.add_mid, cell_of_row _ _ _ _ _ _ (heap_alloc_new w _), Nat.zero_add]; simpa using hj) (fun u hu => by simp at hu; subst hu; rfl)
  obtain ⟨v', w', h1, h2, h3, h4⟩ := run_append_O (P := Tryd.prog) (w.alloc (.cells #[sv p] 9)) base 28 28 28 9 i0 (.string ⟨#[]⟩) Tryd.underlying28 hi hz0 hz1 rfl v (svs L) (hown.alloc _) _ 1 [sv p] hsrc
    (by rw [svs_length, hz2]; omega) (by rw [svs_length, maxLen]; omega) (by rw [size_alloc]; omega) (fun _ => by omega)
  refine ⟨v', w', h1, by simpa [svs] using h2, ((Below.refl base w).alloc hbase _).trans (Below.ofGrown h3 hown.ge (by rw [size_alloc]; omega)), ?_, by rw [size_alloc] at h4; exact h4⟩
  exact ⟨h3.os, h3.tape, h3.output, by have := h3.size; rw [size_alloc] at this; omega, fun k hk hne => (h3.block k (by rw [size_alloc]; omega) hne).trans (Below.heap_alloc w _ k hk)⟩
theorem Own.lt {w : World} {base : Nat} {v : Value} {cs : List Value} (h : Own w base v cs) : ∀ g, v.ownBlock = some g → g < w.heap.size := by
  rcases h with ⟨rfl, _⟩ | ⟨g', cap, rfl, h1, h2, h3, h4, h5, h6⟩
  · intro g hg; cases hg
  · intro g hg; cases hg; exact h6
theorem Path_hs {l : List (List UInt8)} (h : Tree.Hs l) (hl : l.length ≤ 4096) (m : Nat) (h2 : m < l.length) (a : Option Addr) (cap : Nat) (w : World) (hlc : l.length ≤ cap) (hc : cap ≤ 9223372036854775807) (hA : At w a l) (T : Tabs w) :
    Calls Tryd.prog 16 #[.slice a l.length cap, .int .i64 m] w (Out2 w (Tree.path m l, 0)) := by
  have := Path_any l m a cap w hlc hc hA T
  rwa [pathOut, if_pos (wrg_hs h hl), if_pos (by omega), Int.toNat_natCast] at this
/-- yes and no that lie at an address -/
def AtB (w : World) (a : Option Addr) (l : List Bool) : Prop := ∀ j p, l[j]? = some p → ∃ x : Addr, a = some x ∧ x.block < w.heap.size ∧ w.cell? (x.add j) = some (.bool p)
theorem AtB.below {w w' : World} {a : Option Addr} {l : List Bool} {B : Nat} (h : AtB w a l) (hb : Below B w w') (hB : w.heap.size ≤ B) : AtB w' a l := fun j p hp => by
  obtain ⟨x, rfl, hx, hc⟩ := h j p hp
  exact ⟨x, rfl, Nat.lt_of_lt_of_le hx hb.size, (hb.cell (p := x.add j) (by rw [addr_block]; omega)).trans hc⟩
theorem Own.atB {w : World} {base : Nat} {v : Value} {L : List Bool} (h : Own w base v (bls L)) : ∃ a cap, v = .slice a L.length cap ∧ AtB w a L ∧ L.length ≤ cap ∧ cap ≤ 9223372036854775807 := by
  rcases h with ⟨rfl, h⟩ | ⟨g, cap, rfl, h1, h2, h3, h4, h5, h6⟩
  · obtain rfl : L = [] := by simpa [bls] using h
    exact ⟨none, 0, rfl, fun j p hp => by simp at hp, by simp, by omega⟩
  · rw [bls_length] at h2
    refine ⟨some ⟨g, 0, none⟩, cap, by rw [bls_length], fun j p hp => ⟨_, rfl, h6, ?_⟩, h2, h3⟩
    rw [Addr.add_mid]
    exact h4 j (.bool p) (by simp [bls, hp])
theorem atI_one (w : World) (m : Int) : AtI (w.alloc (.cells #[.int .i64 m] 3)) (some ⟨w.heap.size, 0, none⟩) [m] := fun j p hp => by
  refine ⟨_, rfl, by rw [size_alloc]; exact Nat.lt_succ_self _, ?_⟩
  rw [Addr.add_mid, cell_of_row _ _ _ _ _ _ (heap_alloc_new w _), Nat.zero_add]
  match j, hp with
  | 0, h => obtain rfl := Option.some.inj h; rfl
theorem okI_one (n m : Nat) (h : m < n) : OkI n [(m : Int)] := by
  refine ⟨by simp, by simp, fun j x hx => ?_, fun j x y hx hy => by simp at hy⟩
  match j, hx with
  | 0, h' => obtain rfl := Option.some.inj h'; omega
/-- going up so far -/
structure Up (L : List (List UInt8)) (m : Nat) (h0 : List UInt8) (base : Nat) (ws : World) (k : Nat) (vh vl vr : Value) (w : World) : Prop where
  h : vh = sv (Tree.up h0 ((Tree.zp m L).take k))
  l : Own w base vl (svs (Tree.lft ((Tree.zp m L).take k)))
  r : Own w base vr (svs (Tree.rgt ((Tree.zp m L).take k)))
  apart : ∀ g, vl.ownBlock = some g → vr.ownBlock ≠ some g
  below : Below base ws w
theorem lft_step (zs : List (Bool × Tree.T)) (t : Tree.T) : Tree.lft (zs ++ [(false, t)]) = t :: Tree.lft zs := by simp [Tree.lft]
theorem lft_skip (zs : List (Bool × Tree.T)) (t : Tree.T) : Tree.lft (zs ++ [(true, t)]) = Tree.lft zs := by simp [Tree.lft]
theorem rgt_step (zs : List (Bool × Tree.T)) (t : Tree.T) : Tree.rgt (zs ++ [(true, t)]) = Tree.rgt zs ++ [t] := by simp [Tree.rgt]
theorem rgt_skip (zs : List (Bool × Tree.T)) (t : Tree.T) : Tree.rgt (zs ++ [(false, t)]) = Tree.rgt zs := by simp [Tree.rgt]
theorem rgt_len (zs : List (Bool × Tree.T)) : (Tree.rgt zs).length ≤ zs.length := by
  have := Tree.lr_len zs; rw [List.length_append] at this; omega
theorem lft_len (zs : List (Bool × Tree.T)) : (Tree.lft zs).length ≤ zs.length := by
  have := Tree.lr_len zs; rw [List.length_append] at this; omega
end Go.Proofs.YtkiibcfjjplkaaaDoor
