import Derived.Test.YtlfmnedmbkpdbaaDoorCO16
import Derived.Deep.RegionLaw
import Derived.Test.YtlfmnedmbkpdbaaDoorCEP2
import Derived.Test.YtlfmnedmbkpdbaaDoorCO7
import Derived.Test.YtlfmnedmbkpdbaaDoorCI1
import Derived.Test.YtlfmnedmbkpdbaaDoorCW7
namespace Go.Proofs.YtlfmnedmbkpdbaaDoor
open Go.RowKit
theorem append_zero (w : World) (x : Value) (hs : Src Tryd.prog 1 22 x 0 [] w) :
    (Builtin.append_ #[22, 22] 22 #[.slice none 0 0, x]).run Tryd.prog w = .ok (.slice none 0 0) w := by
  obtain ⟨i0, hi, hz0, hz1, hz2⟩ := info_parts infoS
  have hc := hs.cells
  rw [← hz1] at hc
  simp [Builtin.append_, run_underlying Tryd.underlying22, sizeOf, typeInfo, hi, hs.len, hc]
theorem svs_one {L : List (List UInt8)} {v : Value} (h : v ∈ svs L) : v.oneCell' = true := by
  simp only [svs, List.mem_map] at h
  obtain ⟨n, _, rfl⟩ := h
  rfl
/-- append(l, m...) -/
theorem append_list (w : World) (base base2 : Nat) (v v2 : Value) (L L2 : List (List UInt8)) (hown : Own w base v (svs L)) (hown2 : Own w base2 v2 (svs L2)) (hlen : L.length + L2.length ≤ 2000000) (hbase : base ≤ w.heap.size) :
    ∃ v' w', (Builtin.append_ #[22, 22] 22 #[v, v2]).run Tryd.prog w = .ok v' w' ∧ Own w' base v' (svs (L ++ L2)) ∧ Below base w w' := by
  obtain ⟨i0, hi, hz0, hz1, hz2⟩ := info_parts infoS
  have hsrc : Src Tryd.prog 1 22 v2 L2.length (svs L2) w := by
    rcases hown2 with ⟨rfl, h⟩ | ⟨g, cap, rfl, h1, h2, h3, h4, h5, h6⟩
    · obtain rfl : L2 = [] := by simpa [svs] using h
      exact Src.ofNil w Tryd.underlying22 0
    · rw [svs_length]
      exact Src.ofSlice w Tryd.underlying22 ⟨g, 0, none⟩ L2.length cap (svs L2) (by rw [svs_length, Nat.mul_one]) (fun j u hj => by rw [Addr.add_mid]; exact h4 j u hj) (fun u hu => svs_one hu)
  by_cases h0 : v = .slice none 0 0 ∧ L2.length = 0
  · obtain ⟨rfl, h0⟩ := h0
    obtain rfl : L2 = [] := List.length_eq_zero_iff.1 h0
    have hL : L = [] := by
      rcases hown with ⟨_, h⟩ | ⟨g, cap, h, _⟩
      · simpa [svs] using h
      · cases h
    subst hL
    exact ⟨_, w, append_zero w v2 hsrc, Own.nil _ _, Below.refl _ _⟩
  · obtain ⟨v', w', h1, h2, h3, h4⟩ := run_append_O (P := Tryd.prog) w base 22 22 22 9 i0 (.string ⟨#[]⟩) Tryd.underlying22 hi hz0 hz1 rfl v (svs L) hown v2 L2.length (svs L2) hsrc
      (by rw [svs_length, hz2]; omega) (by rw [svs_length, maxLen]; omega) hbase (fun e => by
        have : ¬ L2.length = 0 := fun h => h0 ⟨e, h⟩
        omega)
    exact ⟨v', w', h1, by simpa [svs] using h2, Below.ofGrown h3 hown.ge hbase⟩
/-- an append whose run is known, as one step of a region that draws -/
theorem step_append_run {P : Program} {ops : Array Oper} {o : Oper} {a : Act} {w : World} {K : Act → World → Prop} {Q : Exit → Act → World → Prop} {E : Prop}
    (hg : o.guard = none) (s x : Operand) (t : TypeId) (hop : o.op = Op.call { callee := Callee.builtin Builtin.append, args := #[s, x], argTypes := #[t, t] })
    (v1 v2 v' : Value) (w' : World) (hs : a.eval s = v1) (hx : a.eval x = v2) (hrun : (Builtin.append_ #[t, t] o.type #[v1, v2]).run P w = .ok v' w') (hK : K (a.put o.dst v') w') :
    if Region.wanted o (yielded ops a.tmps) = true then Oper.wp P o a w K Q else E := by
  have hw : Region.wanted o (yielded ops a.tmps) = true := by simp [Region.wanted, hg]
  rw [if_pos hw]
  unfold Oper.wp
  simp [execOp, hop, resolve, invoke, builtin, hs, hx, hrun, Result.andThen]
  exact hK
end Go.Proofs.YtlfmnedmbkpdbaaDoor

namespace Go.Proofs.YtlfmnedmbkpdbaaDoor
open Go.RowKit
/-- T4: some, not too many, each a leaf's, rising -/
structure OkI (n : Nat) (cs : List Int) : Prop where
  pos : 0 < cs.length
  few : cs.length ≤ 256
  leaf : ∀ (j : Nat) (x : Int), cs[j]? = some x → 0 ≤ x ∧ x < n
  rise : ∀ (j : Nat) (x y : Int), cs[j]? = some x → cs[j + 1]? = some y → x < y
theorem pw_of : ∀ (is : List Nat), (∀ (j x y : Nat), is[j]? = some x → is[j + 1]? = some y → x < y) → is.Pairwise (· < ·)
  | [], _ => List.Pairwise.nil
  | [i], _ => by simp
  | i :: k :: t, h => by
    have ih := pw_of (k :: t) (fun j x y hx hy => h (j + 1) x y (by simpa using hx) (by simpa using hy))
    have hik := h 0 i k rfl rfl
    rw [List.pairwise_cons]
    refine ⟨fun y hy => ?_, ih⟩
    rcases List.mem_cons.1 hy with rfl | hy
    · exact hik
    · exact Nat.lt_trans hik ((List.pairwise_cons.1 ih).1 y hy)
def toN (cs : List Int) : List Nat := cs.map Int.toNat
theorem toN_len (cs : List Int) : (toN cs).length = cs.length := by simp [toN]
theorem OkI.ix {n : Nat} {cs : List Int} (h : OkI n cs) : ix (toN cs) = cs := by
  unfold Go.Proofs.YtlfmnedmbkpdbaaDoor.ix toN
  rw [List.map_map]
  conv => rhs; rw [← List.map_id cs]
  refine List.map_congr_left fun x hx => ?_
  obtain ⟨j, hj, rfl⟩ := List.getElem_of_mem hx
  have := (h.leaf j _ (List.getElem?_eq_getElem hj)).1
  show ((cs[j].toNat : Nat) : Int) = cs[j]
  omega
theorem OkI.sorted {n : Nat} {cs : List Int} (h : OkI n cs) : (toN cs).Pairwise (· < ·) := by
  refine pw_of _ fun j x y hx hy => ?_
  simp only [toN, List.getElem?_map, Option.map_eq_some_iff] at hx hy
  obtain ⟨a, ha, rfl⟩ := hx
  obtain ⟨b, hb, rfl⟩ := hy
  have h1 := h.rise j a b ha hb
  have h2 := (h.leaf j a ha).1
  omega
theorem OkI.lt {n : Nat} {cs : List Int} (h : OkI n cs) : ∀ i ∈ toN cs, i < n := fun i hi => by
  simp only [toN, List.mem_map] at hi
  obtain ⟨x, hx, rfl⟩ := hi
  obtain ⟨j, hj, rfl⟩ := List.getElem_of_mem hx
  have := h.leaf j _ (List.getElem?_eq_getElem hj)
  omega
/-- yes or no -/
def SaidB (P : Prop) (w : World) (e : Ending) (w' : World) : Prop := (∃ b : Bool, e = .returned (.bool b) ∧ (b = true ↔ P)) ∧ w' = w
end Go.Proofs.YtlfmnedmbkpdbaaDoor

namespace Go.Proofs.YtlfmnedmbkpdbaaDoor
open Go.RowKit
open Classical in
/-- T4 -/
noncomputable def manyOut (l : List (List UInt8)) (cs : List Int) : List (List UInt8) × Int := if wrg l = 0 then (if OkI l.length cs then (Tree.many (toN cs) 0 l, 0) else ([], 30)) else ([], wrg l)
end Go.Proofs.YtlfmnedmbkpdbaaDoor

namespace Go.Proofs.YtlfmnedmbkpdbaaDoor.Tree
/-- the path, each hash with its side -/
def zpF : Nat → Nat → List T → List (Bool × T)
  | 0, _, _ => []
  | f + 1, m, l => if l.length < 2 then [] else
    if m < sp l.length then zpF f m (l.take (sp l.length)) ++ [(true, root (l.drop (sp l.length)))] else zpF f (m - sp l.length) (l.drop (sp l.length)) ++ [(false, root (l.take (sp l.length)))]
def zp (m : Nat) (l : List T) : List (Bool × T) := zpF l.length m l
theorem zpF_eq : ∀ (f g m : Nat) (l : List T), l.length ≤ f → l.length ≤ g → zpF f m l = zpF g m l
  | 0, 0, _, _, _, _ => rfl
  | 0, g + 1, m, l, h, _ => by rw [zpF, zpF, if_pos (by omega)]
  | f + 1, 0, m, l, _, h => by rw [zpF, zpF, if_pos (by omega)]
  | f + 1, g + 1, m, l, h1, h2 => by
    rw [zpF, zpF]
    by_cases h : l.length < 2
    · rw [if_pos h, if_pos h]
    · have a := sp_lt (n := l.length) (by omega)
      have b := sp_pos (n := l.length) (by omega)
      rw [if_neg h, if_neg h, zpF_eq f g _ _ (by simp; omega) (by simp; omega), zpF_eq f g _ (l.drop _) (by simp; omega) (by simp; omega)]
theorem zp_small {m : Nat} {l : List T} (h : l.length < 2) : zp m l = [] := by
  rw [zp, zpF_eq _ 1 _ _ (Nat.le_refl _) (by omega), zpF, if_pos h]
theorem zp_cut {m : Nat} {l : List T} (h : 2 ≤ l.length) : zp m l = if m < sp l.length then zp m (l.take (sp l.length)) ++ [(true, root (l.drop (sp l.length)))] else zp (m - sp l.length) (l.drop (sp l.length)) ++ [(false, root (l.take (sp l.length)))] := by
  have a := sp_lt h
  have b := sp_pos h
  have e : zp m l = zpF (l.length - 1 + 1) m l := zpF_eq _ _ _ _ (by omega) (by omega)
  rw [e, zpF, if_neg (by omega), zp, zp, zpF_eq (l.length - 1) _ _ (l.take _) (by simp; omega) (Nat.le_refl _), zpF_eq (l.length - 1) _ _ (l.drop _) (by simp; omega) (Nat.le_refl _)]
theorem path_zp : ∀ (f m : Nat) (l : List T), l.length ≤ f → path m l = (zp m l).map (·.2)
  | 0, m, l, h => by rw [path_small (by omega), zp_small (by omega)]; rfl
  | f + 1, m, l, h => by
    by_cases h2 : l.length < 2
    · rw [path_small h2, zp_small h2]; rfl
    · have a := sp_lt (n := l.length) (by omega)
      have b := sp_pos (n := l.length) (by omega)
      rw [path_cut (by omega), zp_cut (by omega)]
      split
      · rw [path_zp f m _ (by simp; omega)]; simp
      · rw [path_zp f _ (l.drop _) (by simp; omega)]; simp
/-- going up -/
def up (h : T) (zs : List (Bool × T)) : T := zs.foldl (fun h z => if z.1 then nd h z.2 else nd z.2 h) h
theorem up_step (h : T) (zs : List (Bool × T)) (z : Bool × T) : up h (zs ++ [z]) = if z.1 then nd (up h zs) z.2 else nd z.2 (up h zs) := by
  simp [up]
theorem up_root : ∀ (f m : Nat) (l : List T) (h : m < l.length), l.length ≤ f → up l[m] (zp m l) = root l
  | 0, m, l, h, hf => by omega
  | f + 1, m, l, h, hf => by
    by_cases h2 : l.length < 2
    · have h1 : l.length = 1 := by omega
      obtain ⟨a, rfl⟩ := List.length_eq_one_iff.1 h1
      have : m = 0 := by simp at h; omega
      subst this
      rw [zp_small h2]; rfl
    · have a := sp_lt (n := l.length) (by omega)
      have b := sp_pos (n := l.length) (by omega)
      rw [zp_cut (by omega), root_cut (l := l) (by omega)]
      by_cases hm : m < sp l.length
      · rw [if_pos hm, up_step]
        have := up_root f m (l.take (sp l.length)) (by simp; omega) (by simp; omega)
        rw [List.getElem_take] at this
        rw [this]; rfl
      · rw [if_neg hm, up_step]
        have := up_root f (m - sp l.length) (l.drop (sp l.length)) (by simp; omega) (by simp; omega)
        rw [List.getElem_drop] at this
        have e : sp l.length + (m - sp l.length) = m := by omega
        simp only [e] at this
        rw [this]; rfl
def rgt (zs : List (Bool × T)) : List T := (zs.filter (·.1)).map (·.2)
def lft (zs : List (Bool × T)) : List T := ((zs.filter (fun z => !z.1)).map (·.2)).reverse
theorem many_zp : ∀ (f m b : Nat) (l : List T), l.length ≤ f → m < l.length → many [b + m] b l = lft (zp m l) ++ rgt (zp m l)
  | 0, m, b, l, hf, h => by omega
  | f + 1, m, b, l, hf, h => by
    by_cases h2 : l.length < 2
    · rw [zp_small h2, many_one (by simp) (by omega)]; rfl
    · have x := sp_lt (n := l.length) (by omega)
      have y := sp_pos (n := l.length) (by omega)
      rw [zp_cut (by omega), many_cut (by simp) (by omega)]
      by_cases hm : m < sp l.length
      · have ih := many_zp f m b (l.take (sp l.length)) (by simp; omega) (by simp; omega)
        rw [if_pos hm, List.filter_cons_of_pos (by simp; omega), List.filter_nil, List.filter_cons_of_neg (by simp; omega), List.filter_nil, ih, many_none (by simp; omega)]
        simp [lft, rgt]
      · have ih := many_zp f (m - sp l.length) (b + sp l.length) (l.drop (sp l.length)) (by simp; omega) (by simp; omega)
        rw [show b + sp l.length + (m - sp l.length) = b + m from by omega] at ih
        rw [if_neg hm, List.filter_cons_of_neg (by simp; omega), List.filter_nil, List.filter_cons_of_pos (by simp; omega), List.filter_nil, ih, many_none (by simp; omega)]
        simp [lft, rgt]
theorem lr_len (zs : List (Bool × T)) : (lft zs ++ rgt zs).length = zs.length := by
  induction zs with
  | nil => rfl
  | cons z zs ih =>
    obtain ⟨b, t⟩ := z
    cases b <;> simp [lft, rgt] at * <;> omega
/-- how many digits -/
def dg (x : Nat) : Nat := if x = 0 then 0 else x.log2 + 1
theorem dg_le {x L : Nat} (h : x < 2 ^ L) : dg x ≤ L := by
  unfold dg
  split
  · omega
  · rename_i h0
    have := (Nat.log2_lt h0).2 h
    omega
theorem dg_half {x : Nat} (h : 0 < x) : dg x = dg (x / 2) + 1 := by
  unfold dg
  rw [if_neg (by omega)]
  rw [Nat.log2_def]
  by_cases h2 : 2 ≤ x
  · rw [if_pos h2, if_neg (by omega)]
  · rw [if_neg h2, if_pos (by omega)]
theorem zp_dg : ∀ (f m : Nat) (l : List T), l.length ≤ f → (zp m l).length ≤ dg (l.length - 1)
  | 0, m, l, h => by rw [zp_small (by omega)]; simp
  | f + 1, m, l, h => by
    by_cases h2 : l.length < 2
    · rw [zp_small h2]; simp
    · have a := sp_lt (n := l.length) (by omega)
      have b := sp_pos (n := l.length) (by omega)
      have c := sp_ge (n := l.length) (by omega)
      have d := sp_eq (n := l.length) (by omega)
      have e : dg (l.length - 1) = (l.length - 1).log2 + 1 := by unfold dg; rw [if_neg (by omega)]
      rw [zp_cut (by omega), e]
      split
      · have ih := zp_dg f m (l.take (sp l.length)) (by simp; omega)
        have : dg ((l.take (sp l.length)).length - 1) ≤ (l.length - 1).log2 := dg_le (by rw [List.length_take, ← d]; omega)
        rw [List.length_append, List.length_singleton]; omega
      · have ih := zp_dg f (m - sp l.length) (l.drop (sp l.length)) (by simp; omega)
        have : dg ((l.drop (sp l.length)).length - 1) ≤ (l.length - 1).log2 := dg_le (by rw [List.length_drop, ← d]; omega)
        rw [List.length_append, List.length_singleton]; omega
end Go.Proofs.YtlfmnedmbkpdbaaDoor.Tree

namespace Go.Proofs.YtlfmnedmbkpdbaaDoor
open Go.RowKit
def bls (L : List Bool) : List Value := L.map .bool
theorem bls_length (L : List Bool) : (bls L).length = L.length := by simp [bls]
theorem infoB : (Tryd.prog.info? 4).map (fun i => (i.zero, i.size, i.bytes)) = some (some (.bool false), 1, 1) := by kernel_rfl
/-- a list of yes and no -/
def OutB (w : World) (L : List Bool) (e : Ending) (w' : World) : Prop := ∃ v, e = .returned v ∧ Own w' w.heap.size v (bls L) ∧ Below w.heap.size w w'
def sides (m : Nat) (l : List (List UInt8)) : List Bool := (Tree.zp m l).map (·.1)
end Go.Proofs.YtlfmnedmbkpdbaaDoor

namespace Go.Proofs.YtlfmnedmbkpdbaaDoor
open Go.RowKit
theorem take_next {L M : List (List UInt8)} {k : Nat} (h : L.take k = M.take k) (h1 : k < L.length) (h2 : k < M.length) (e : L[k] = M[k]) : L.take (k + 1) = M.take (k + 1) := by
  rw [List.take_add_one, List.take_add_one, h, List.getElem?_eq_getElem h1, List.getElem?_eq_getElem h2, e]
set_option maxRecDepth 100000 in
set_option maxHeartbeats 1600000 in
theorem equalS_any (L M : List (List UInt8)) (a d : Option Addr) (ca cd : Nat) (w : World) (ha : At w a L) (hd : At w d M) (hl : L.length ≤ 9223372036854775807) (hm : M.length ≤ 9223372036854775807) :
    Calls Tryd.prog 29 #[.slice a L.length ca, .slice d M.length cd] w fun e w' => e = .returned (.bool (decide (L = M))) ∧ Below w.heap.size w w' := by
  have Ha := hid ha
  have Hd := hid hd
  clear ha hd
  obtain ⟨r, hr⟩ : ∃ r, Hid (decide (L = M) = r) := ⟨_, rfl⟩
  rw [hr.out]
  by_cases hlm : L.length = M.length
  · have e0 : ((L.length : Int) != (M.length : Int)) = false := by rw [hlm]; simp
    go_enter Tryd.func29, Tryd.ntmps29
    go_wp2
    go_loopw [13] (fun i w' => ∃ k : Nat, k ≤ L.length ∧ i = .int .i64 k ∧ Hid (L.take k = M.take k) ∧ Hid (Below w.heap.size w w')) (fun i _ => L.length - (intOf i).toNat)
    case atStart => exact ⟨0, by omega, rfl, hid rfl, hid (Below.refl _ _)⟩
    case round =>
      obtain ⟨k, hk, rfl, hq, hw'⟩ := hrel
      by_cases hlt : k < L.length
      · have b0 : (k : Int) < (L.length : Int) := by omega
        have b1 : (k : Int) < (M.length : Int) := by omega
        obtain ⟨x, rfl, xb, hx⟩ := Ha.out k L[k] (List.getElem?_eq_getElem hlt)
        rw [← hw'.out.cell (p := x.add k) (by rw [addr_block]; exact xb)] at hx
        obtain ⟨y, rfl, yb, hy⟩ := Hd.out k (M[k]'(by omega)) (List.getElem?_eq_getElem (by omega))
        rw [← hw'.out.cell (p := y.add k) (by rw [addr_block]; exact yb)] at hy
        clear yb xb
        rw [svS] at hx hy
        by_cases he : L[k] = M[k]'(by omega)
        · have hq' := hid (take_next hq.out hlt (by omega) he)
          rw [← he] at hy
          generalize ByteArray.mk (L[k]).toArray = p at *
          have y1 : (p.toList == p.toList) = true := by simp
          have y2 : (p.toList != p.toList) = false := by simp
          clear hq he
          go_wp2
          go_quiet (fail)
          go_wp2
          exact ⟨⟨k + 1, by omega, by go_num, hq', hid (below_drewN hw'.out _)⟩, by simp [intOf]; omega⟩
        · obtain rfl : r = false := by
            rw [← hr.out, decide_eq_false_iff_not]
            intro e
            subst e
            exact he rfl
          have hne : (L[k] == M[k]'(by omega)) = false := by simpa using he
          generalize hp : L[k] = p at *
          generalize hq2 : (M[k]'(by omega)) = q at *
          clear hq he hr
          have y1 : ((ByteArray.mk p.toArray).toList == (ByteArray.mk q.toArray).toList) = false := by rw [ByteArray.toList_eq, ByteArray.toList_eq]; exact hne
          have y2 : ((ByteArray.mk p.toArray).toList != (ByteArray.mk q.toArray).toList) = true := by rw [bne, y1]; rfl
          go_wp2
          go_quiet (fail)
          go_wp2
          go_ret
          exact ⟨rfl, below_drewN hw'.out _⟩
      · have b0 : ¬ (k : Int) < (L.length : Int) := by omega
        obtain rfl : r = true := by
          rw [← hr.out, decide_eq_true_iff]
          have := hq.out
          rwa [List.take_of_length_le (by omega), List.take_of_length_le (by omega)] at this
        go_wp2
        go_ret
        exact ⟨rfl, hw'.out⟩
  · have e0 : ((L.length : Int) != (M.length : Int)) = true := by
      have : ¬ (L.length : Int) = (M.length : Int) := by omega
      simpa using this
    obtain rfl : r = false := by
      rw [← hr.out, decide_eq_false_iff_not]
      intro e
      subst e
      exact hlm rfl
    go_enter Tryd.func29, Tryd.ntmps29
    go_wp2
    go_ret
    exact ⟨rfl, Below.refl _ _⟩
end Go.Proofs.YtlfmnedmbkpdbaaDoor

namespace Go.Proofs.YtlfmnedmbkpdbaaDoor
open Go.RowKit
/-- a list of hashes that Root takes -/
def Okl (l : List (List UInt8)) : Prop := Tree.Hs l ∧ l.length ≤ 4096
theorem Okl.wrg {l : List (List UInt8)} (h : Okl l) : wrg l = 0 := by
  unfold Go.Proofs.YtlfmnedmbkpdbaaDoor.wrg
  rw [if_neg (by have := h.2; omega), if_pos]
  rw [List.all_eq_true]
  intro x hx
  simpa using h.1 x hx
theorem Okl.of {l : List (List UInt8)} (h : Go.Proofs.YtlfmnedmbkpdbaaDoor.wrg l = 0) : Okl l := by
  unfold Go.Proofs.YtlfmnedmbkpdbaaDoor.wrg at h
  split at h
  · cases h
  · rename_i h1
    split at h
    · rename_i h2
      rw [List.all_eq_true] at h2
      exact ⟨fun x hx => by simpa using h2 x hx, by omega⟩
    · cases h
theorem Okl.out {l : List (List UInt8)} (h : Okl l) : rootOut l = (Tree.root l, 0) := by unfold rootOut; rw [if_pos h.wrg]
theorem Okl.take {l : List (List UInt8)} (h : Okl l) (k : Nat) : Okl (l.take k) := ⟨h.1.take k, by rw [List.length_take]; have := h.2; omega⟩
theorem Okl.drop {l : List (List UInt8)} (h : Okl l) (k : Nat) : Okl (l.drop k) := ⟨h.1.drop k, by rw [List.length_drop]; have := h.2; omega⟩
set_option maxRecDepth 100000 in
set_option maxHeartbeats 1600000 in
theorem partsText_any (L : List (List UInt8)) (k : Nat) (x : Addr) (cap : Nat) (w : World) (hL : Okl L) (h1 : 0 < k) (h2 : k < L.length) (hc : L.length ≤ cap) (hc2 : cap ≤ 9223372036854775807) (hA : At w (some x) L) (T : Tabs w) {t : List UInt8} (ht : Hid (Tree.nt (Tree.root (L.take k)) (Tree.root (L.drop k)) = t)) :
    Calls Tryd.prog 43 #[.slice (some x) L.length cap, .int .i64 (k : Int)] w fun e w' => e = .returned (sv t) ∧ Below w.heap.size w w' := by
  have l1 : (L.take k).length = k := by rw [List.length_take]; omega
  have l2 : (L.drop k).length = L.length - k := by rw [List.length_drop]
  have i1 := Root_any (L.take k) (some x) cap w (by omega) hc2 (hA.take k) T
  have i2 := fun w' (hA' : At w' (some x) L) (T' : Tabs w') => Root_any (L.drop k) (some (x.add k)) (cap - k) w' (by omega) (by omega) (hA'.drop k) T'
  rw [(hL.take k).out, l1] at i1
  rw [(hL.drop k).out, l2] at i2
  have HA := hid hA
  have HT := hid T
  obtain ⟨ra, hra⟩ : ∃ ra, Hid (Tree.root (L.take k) = ra) := ⟨_, rfl⟩
  obtain ⟨rb, hrb⟩ : ∃ rb, Hid (Tree.root (L.drop k) = rb) := ⟨_, rfl⟩
  rw [hra.out, svS] at i1
  rw [hrb.out, svS] at i2
  rw [hra.out, hrb.out] at ht
  have e1 : ra.length = 32 := by rw [← hra.out]; exact Tree.root_len (hL.1.take k)
  have e2 : rb.length = 32 := by rw [← hrb.out]; exact Tree.root_len (hL.1.drop k)
  have s1 : ¬ 9223372036854775807 < 1 + ra.length := by omega
  have s2 : ¬ 9223372036854775807 < 1 + ra.length + rb.length := by omega
  clear hA T hL l1 l2 hra hrb
  generalize L.length = n at *
  have m1 : (k : Int) ≤ (n : Int) := by omega
  have m2 : (k : Int) ≤ (cap : Int) := by omega
  go_enter Tryd.func43, Tryd.ntmps43
  go_wp2_with (go_at_call 8; fail)
  refine i1.mono ?_
  rintro e w1 ⟨rfl, b1⟩
  have i2 := i2 w1 (HA.out.below b1 (Nat.le_refl _)) (HT.out.below b1 HT.out.lt)
  clear i1
  go_wp2_with (go_at_call 8; fail)
  refine i2.mono ?_
  rintro e w2 ⟨rfl, b2⟩
  have hv : Value.string ({ data := #[1] } ++ { data := ra.toArray } ++ { data := rb.toArray }) = sv t := by
    rw [← ht.out]
    unfold sv Tree.nt
    congr 1
  go_wp2
  go_ret
  exact ⟨hv ▸ rfl, b1.trans (b2.mono b1.size)⟩
end Go.Proofs.YtlfmnedmbkpdbaaDoor

namespace Go.Proofs.YtlfmnedmbkpdbaaDoor
open Go.RowKit
/-- where a walk stands -/
abbrev wy (p l : Nat) : Value := .agg #[.int .i64 (p : Int), .int .i64 (l : Int)]
theorem tdiv2 (k : Nat) : ((k : Int).tdiv 2) = ((k / 2 : Nat) : Int) := by rw [Int.tdiv_eq_ediv_of_nonneg (by omega)]; omega
theorem wrap2 (k : Nat) (h : k < 9223372036854775808) : IntKind.i64.wrap ((k / 2 : Nat) : Int) = ((k / 2 : Nat) : Int) := wrap_small _ (by omega) (by omega)
theorem sizeW : (Tryd.prog.info? 80).map (·.size) = some 2 := by kernel_rfl
theorem sizeW' (a b : Value) : (Tryd.prog.info? 80).map (·.size) = some #[a, b].size := sizeW
theorem oneW (a b : Int) : (#[Value.int .i64 a, Value.int .i64 b].all (·.oneCell')) = true := all_oneCell_toArray (cs := [Value.int .i64 a, Value.int .i64 b]) fun v hv => by
  simp only [List.mem_cons, List.not_mem_nil, or_false] at hv
  rcases hv with rfl | rfl <;> rfl
/-- a walk's variable -/
def Wy (w : World) (g p l : Nat) : Prop := w.heap[g]? = some (.cells #[.int .i64 (p : Int), .int .i64 (l : Int)] 80 (0, 0))
theorem Wy.row {w : World} {g p l : Nat} (h : Wy w g p l) : w.heap[g]? = some (.cells #[.int .i64 (p : Int), .int .i64 (l : Int)] 80 (0, 0)) := h
theorem Wy.c0 {w : World} {g p l : Nat} (h : Wy w g p l) : w.cell? ⟨g, 0, none⟩ = some (.int .i64 (p : Int)) := by rw [cell_of_row w g 0 _ _ _ h]; rfl
theorem Wy.c1 {w : World} {g p l : Nat} (h : Wy w g p l) : w.cell? ⟨g, 1, none⟩ = some (.int .i64 (l : Int)) := by rw [cell_of_row w g 1 _ _ _ h]; rfl
theorem Wy.below {w w' : World} {g p l : Nat} (h : Wy w g p l) (hb : Below w.heap.size w w') : Wy w' g p l := (hb.block g (lt_of_heap h)).trans h
theorem Wy.set {w : World} {g p l : Nat} (h : Wy w g p l) (p' l' : Nat) : Wy (w.setRow g #[.int .i64 (p' : Int), .int .i64 (l' : Int)]) g p' l' := setRow_heap _ _ _ _ _ _ h
theorem Wy.setO {w : World} {g p l k : Nat} (h : Wy w g p l) (cs : Array Value) (hk : k ≠ g) : Wy (w.setRow k cs) g p l := (setRow_other w k g cs (Ne.symm hk)).trans h
theorem Wy.new (w : World) (p l : Nat) : Wy (w.alloc (.cells #[.int .i64 (p : Int), .int .i64 (l : Int)] 80)) w.heap.size p l := heap_alloc_new w _
def numAt (w : World) (g i : Nat) : Nat := match w.cell? ⟨g, i, none⟩ with | some (.int _ n) => n.toNat | _ => 0
theorem Wy.n0 {w : World} {g p l : Nat} (h : Wy w g p l) : numAt w g 0 = p := by unfold numAt; rw [h.c0]; exact Int.toNat_natCast _
theorem Wy.n1 {w : World} {g p l : Nat} (h : Wy w g p l) : numAt w g 1 = l := by unfold numAt; rw [h.c1]; exact Int.toNat_natCast _
set_option maxRecDepth 100000 in
set_option maxHeartbeats 2000000 in
theorem halved_any (p l : Nat) (hp : p < 9223372036854775808) (hl : l < 9223372036854775808) (w : World) :
    Calls Tryd.prog 69 #[wy p l] w fun e w' => e = .returned (wy (p / 2) (l / 2)) ∧ Below w.heap.size w w' := by
  have e1 := tdiv2 p
  have e2 := tdiv2 l
  have e3 := wrap2 p hp
  have e4 := wrap2 l hl
  go_enter Tryd.func69, Tryd.ntmps69
  go_wp2
  refine bodyPost_ret (v := wy (p / 2) (l / 2)) (results_cell_row rfl _ _ (w.heap.size + 1) 80 _ (0, 0) _ rfl (heap_alloc_at _ _ _ (size_alloc w _)) Tryd.underlying80 rfl sizeW) rfl ⟨rfl, ?_⟩
  exact ((Below.refl _ _).alloc (Nat.le_refl _) _).alloc (by rw [size_alloc]; omega) _
set_option maxRecDepth 100000 in
set_option maxHeartbeats 2000000 in
theorem fromLeft_any (p l : Nat) (hp : p < 9223372036854775808) (hl : l < 9223372036854775808) (w : World) :
    Calls Tryd.prog 66 #[wy p l] w fun e w' => e = .returned (.bool (p % 2 == 1 || p == l)) ∧ Below w.heap.size w w' := by
  have e1 : (p : Int).tmod 2 = ((p % 2 : Nat) : Int) := by rw [Int.tmod_eq_emod_of_nonneg (by omega)]; omega
  have e2 : IntKind.i64.wrap ((p % 2 : Nat) : Int) = ((p % 2 : Nat) : Int) := wrap_small _ (by omega) (by omega)
  by_cases ho : p % 2 = 1
  · have b0 : (((p % 2 : Nat) : Int) == 1) = true := by rw [ho]; rfl
    have e := hid (show (p % 2 == 1 || p == l) = true by simp [ho])
    go_enter Tryd.func66, Tryd.ntmps66
    go_wp2
    go_ret
    exact ⟨by rw [e.out]; rfl, (Below.refl _ _).alloc (Nat.le_refl _) _⟩
  · have b0 : (((p % 2 : Nat) : Int) == 1) = false := by simp; omega
    have b9 : ((p : Int) % 2 == 1) = false := by simp; omega
    have b8 : ¬ (p : Int) % 2 = 1 := by omega
    by_cases h : p = l
    · subst h
      have e := hid (show (p % 2 == 1 || p == p) = true by simp)
      go_enter Tryd.func66, Tryd.ntmps66
      go_wp2
      go_ret
      exact ⟨by rw [e.out]; rfl, (Below.refl _ _).alloc (Nat.le_refl _) _⟩
    · have e := hid (show (p % 2 == 1 || p == l) = false by simp [ho, h])
      have b1 : ((p : Int) == (l : Int)) = false := by simp; omega
      go_enter Tryd.func66, Tryd.ntmps66
      go_wp2
      go_ret
      exact ⟨by rw [e.out]; rfl, (Below.refl _ _).alloc (Nat.le_refl _) _⟩
set_option maxRecDepth 100000 in
set_option maxHeartbeats 2000000 in
theorem above_any (p l : Nat) (hp : p ≤ l) (h0 : l ≠ 0) (hl : l < 9223372036854775808) (w : World) :
    Calls Tryd.prog 68 #[wy p l] w fun e w' => ∃ p' l', e = .returned (wy p' l') ∧ Below w.heap.size w w' ∧ p' ≤ l' ∧ l' < l ∧ Hid (Tree.U p l = (p % 2 == 1 || p == l) :: Tree.U p' l') := by
  by_cases h : p = l
  · subst h
    have c0 := Wy.new w p p
    go_enter Tryd.func68, Tryd.ntmps68
    go_wp2
    go_loopw [] (fun w' => ∃ x : Nat, x ≠ 0 ∧ x ≤ p ∧ Hid (Tree.U p p = Tree.U x x) ∧ Hid (Wy w' w.heap.size x x) ∧ Hid (Wy w' (w.heap.size + 1) 0 0) ∧ Hid (Below w.heap.size w w')) (fun w' => numAt w' w.heap.size 0)
    case atStart =>
      have s1 := size_alloc w (.cells #[Value.int .i64 (p : Int), Value.int .i64 (p : Int)] 80)
      exact ⟨p, h0, Nat.le_refl _, rfl, (Below.heap_alloc _ _ _ (by omega)).trans (Wy.new w p p), heap_alloc_at _ _ _ s1, ((Below.refl _ _).alloc (Nat.le_refl _) _).alloc (by omega) _⟩
    case round =>
      obtain ⟨x, hx0, hxp, hU, hW, hR, hB⟩ := hrel
      have c0 := hW.out.c0
      have c1 := hW.out.c1
      have lt1 := lt_of_heap hW.out
      by_cases ho : x % 2 = 0
      · have b0 : (x : Int) % 2 = 0 := by omega
        have b1 : ((x : Int) % 2 == 0) = true := by simp; omega
        have b2 : ((x : Int) != 0) = true := by simp; omega
        have b3 : ((x : Int) == 0) = false := by simp; omega
        have hc := halved_any x x (by omega) (by omega) wr
        go_wp2_with (first
          | ((with_reducible show wpList _ _ _ (Oper.mk _ (Op.load 80 _) _ _ _ _ :: _) _ _); go_must (refine wpList_load_row rfl 80 _ rfl w.heap.size rfl 80 _ (0, 0) _ hW.out.row Tryd.underlying80 rfl (sizeW' _ _) ?_))
          | (go_at_call 69; refine hc.mono ?_; rintro e w1 ⟨rfl, hw1⟩)
          | ((with_reducible show wpList _ _ _ (Oper.mk _ (Op.store 80 _ _) _ _ _ _ :: _) _ _); go_must (refine wpList_store_row rfl 80 _ _ rfl w.heap.size _ rfl rfl 80 _ (hW.out.below hw1).row (sizeW' _ _) rfl (oneW _ _) ?_)))
        have hW1 := (hW.out.below hw1).set (x / 2) (x / 2)
        have hm : numAt (w1.setRow w.heap.size #[.int .i64 ((x / 2 : Nat) : Int), .int .i64 ((x / 2 : Nat) : Int)]) w.heap.size 0 < numAt wr w.heap.size 0 := by rw [hW1.n0, hW.out.n0]; omega
        refine ⟨?_, hm⟩
        repeat apply Exists.intro
        exact ⟨⟨x / 2, by omega, by omega, hid (hU.out.trans (Tree.U_skip hx0 ho)), hid hW1, hid ((hR.out.below hw1).setO _ (by omega)), hid (Below.setRow (hB.out.trans (hw1.mono hB.out.size)) (Nat.le_refl _) _)⟩, rfl⟩
      · have b0 : ¬ (x : Int) % 2 = 0 := by omega
        have b1 : ((x : Int) % 2 == 0) = false := by simp; omega
        have hc := halved_any x x (by omega) (by omega) wr
        go_wp2_with (first
          | ((with_reducible show wpList _ _ _ (Oper.mk _ (Op.load 80 _) _ _ _ _ :: _) _ _); go_must (refine wpList_load_row rfl 80 _ rfl w.heap.size rfl 80 _ (0, 0) _ hW.out.row Tryd.underlying80 rfl (sizeW' _ _) ?_))
          | (go_at_call 69; refine hc.mono ?_; rintro e w1 ⟨rfl, hw1⟩)
          | ((with_reducible show wpList _ _ _ (Oper.mk _ (Op.store 80 _ _) _ _ _ _ :: _) _ _); go_must (refine wpList_store_row rfl 80 _ _ rfl (w.heap.size + 1) _ rfl rfl 80 _ (hR.out.below hw1).row (sizeW' _ _) rfl (oneW _ _) ?_)))
        refine bodyPost_ret (v := wy (x / 2) (x / 2)) (results_cell_row rfl _ _ (w.heap.size + 1) 80 _ (0, 0) _ rfl ((hR.out.below hw1).set (x / 2) (x / 2)).row Tryd.underlying80 rfl sizeW) rfl ⟨x / 2, x / 2, rfl, ?_, Nat.le_refl _, by omega, ?_⟩
        · exact Below.setRow (hB.out.trans (hw1.mono hB.out.size)) (by omega) _
        · refine hid (hU.out.trans ?_)
          rw [Tree.U_step hx0 (by omega), show (x % 2 == 1) = true by simp; omega]
          simp
  · have b0 : ((p : Int) == (l : Int)) = false := by simp; omega
    have e := hid (show Tree.U p l = (p % 2 == 1 || p == l) :: Tree.U (p / 2) (l / 2) by rw [Tree.U_step h0 (by omega), show (p == l) = false by simpa using h, Bool.or_false])
    have hc := halved_any p l (by omega) hl
    have s1 := size_alloc w (.cells #[Value.int .i64 (p : Int), Value.int .i64 (l : Int)] 80)
    have hB : Hid (Below w.heap.size w ((w.alloc (.cells #[Value.int .i64 (p : Int), Value.int .i64 (l : Int)] 80)).alloc (.cells #[Value.int .i64 0, Value.int .i64 0] 80))) := ((Below.refl _ _).alloc (Nat.le_refl _) _).alloc (by omega) _
    have hR : Hid (Wy ((w.alloc (.cells #[Value.int .i64 (p : Int), Value.int .i64 (l : Int)] 80)).alloc (.cells #[Value.int .i64 0, Value.int .i64 0] 80)) (w.heap.size + 1) 0 0) := heap_alloc_at _ _ _ s1
    clear s1
    go_enter Tryd.func68, Tryd.ntmps68
    go_wp2_with (first
      | (go_at_call 69; refine (hc _).mono ?_; rintro e w1 ⟨rfl, hw1⟩)
      | ((with_reducible show wpList _ _ _ (Oper.mk _ (Op.store 80 _ _) _ _ _ _ :: _) _ _); go_must (refine wpList_store_row rfl 80 _ _ rfl (w.heap.size + 1) _ rfl rfl 80 _ (hR.out.below hw1).row (sizeW' _ _) rfl (oneW _ _) ?_)))
    refine bodyPost_ret (v := wy (p / 2) (l / 2)) (results_cell_row rfl _ _ (w.heap.size + 1) 80 _ (0, 0) _ rfl ((hR.out.below hw1).set (p / 2) (l / 2)).row Tryd.underlying80 rfl sizeW) rfl ⟨p / 2, l / 2, rfl, ?_, by omega, by omega, e⟩
    exact Below.setRow (hB.out.trans (hw1.mono hB.out.size)) (by omega) _
end Go.Proofs.YtlfmnedmbkpdbaaDoor
