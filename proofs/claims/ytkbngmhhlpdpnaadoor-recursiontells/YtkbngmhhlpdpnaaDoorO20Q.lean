import Derived.Test.YtkbngmhhlpdpnaaDoorO17Q
import Derived.Test.YtkbngmhhlpdpnaaDoorO26
namespace Go.Proofs.YtkbngmhhlpdpnaaDoor.Tree
/-- the root of the first m, where m goes past the first part -/
theorem root_past {l : List T} {m : Nat} (h1 : sp l.length < m) (h2 : m ≤ l.length) (hl : 2 ≤ l.length) : root (l.take m) = nd (root (l.take (sp l.length))) (root ((l.drop (sp l.length)).take (m - sp l.length))) := by
  have a := sp_lt hl
  have b := sp_ge hl
  have c := sp_pos hl
  have hlen : (l.take m).length = m := by simp; omega
  have hs : sp m = sp l.length := by
    have e := sp_eq hl
    rw [e] at h1 b
    rw [sp_one (n := m) (by rw [← e] at h1; omega) _ h1 (by omega), e]
  rw [root_cut (l := l.take m) (by rw [hlen]; omega), hlen, hs, List.take_take, Nat.min_eq_left (by omega), List.drop_take]
end Go.Proofs.YtkbngmhhlpdpnaaDoor.Tree
namespace Go.Proofs.YtkbngmhhlpdpnaaDoor
open Go.RowKit
theorem At.init {w : World} {a : Option Addr} {l : List (List UInt8)} {r : List UInt8} (h : At w a (l ++ [r])) : At w a l := fun j p hp => h j p (by
  rw [List.getElem?_append_left (List.getElem?_eq_some_iff.1 hp).1]; exact hp)
theorem At.last {w : World} {x : Addr} {l : List (List UInt8)} {r : List UInt8} (h : At w (some x) (l ++ [r])) : w.cell? (x.add l.length) = some (.string ⟨r.toArray⟩) := by
  obtain ⟨y, hy, _, hc⟩ := h l.length r (by simp)
  obtain rfl := Option.some.inj hy
  exact hc
theorem lnode_at' (l r N : List UInt8) (h : Hid (Tree.nd l r = N)) (w : World) (T : Tabs w) : Calls Tryd.prog 40 #[.string ⟨l.toArray⟩, sv r] w fun e w' => e = .returned (sv N) ∧ Below w.heap.size w w' := lnode_at l r N h w T
end Go.Proofs.YtkbngmhhlpdpnaaDoor

namespace Go.Proofs.YtkbngmhhlpdpnaaDoor
open Go.RowKit
theorem Own.at {w : World} {base : Nat} {v : Value} {L : List (List UInt8)} (h : Own w base v (svs L)) : ∃ a cap, v = .slice a L.length cap ∧ At w a L ∧ L.length ≤ cap ∧ cap ≤ 9223372036854775807 := by
  rcases h with ⟨rfl, h⟩ | ⟨g, cap, rfl, h1, h2, h3, h4, h5, h6⟩
  · obtain rfl : L = [] := by simpa [svs] using h
    exact ⟨none, 0, rfl, At.nil _ _, by simp, by omega⟩
  · rw [svs_length] at h2
    refine ⟨some ⟨g, 0, none⟩, cap, by rw [svs_length], fun j p hp => ⟨_, rfl, h6, ?_⟩, h2, h3⟩
    rw [Addr.add_mid]
    exact h4 j (sv p) (by simp [svs, hp])
theorem wrg_hs {l : List (List UInt8)} (h : Tree.Hs l) (hl : l.length ≤ 4096) : wrg l = 0 := by
  rw [wrg, if_neg (by omega), if_pos]
  rw [List.all_eq_true]
  intro x hx
  simpa using h x hx
theorem Proof_hs {l : List (List UInt8)} (h : Tree.Hs l) (hl : l.length ≤ 4096) (m : Nat) (h1 : 1 ≤ m) (h2 : m ≤ l.length) (a : Option Addr) (cap : Nat) (w : World) (hlc : l.length ≤ cap) (hc : cap ≤ 9223372036854775807) (hA : At w a l) (T : Tabs w) :
    Calls Tryd.prog 13 #[.slice a l.length cap, .int .i64 m] w (Out2 w (Tree.proof m l true, 0)) := by
  have := Proof_any l m a cap w hlc hc hA T
  rwa [proofOut, if_pos (wrg_hs h hl), if_pos (by omega), Int.toNat_natCast] at this
theorem Root_hs {l : List (List UInt8)} (h : Tree.Hs l) (hl : l.length ≤ 4096) (a : Option Addr) (cap : Nat) (w : World) (hlc : l.length ≤ cap) (hc : cap ≤ 9223372036854775807) (hA : At w a l) (T : Tabs w) :
    Calls Tryd.prog 33 #[.slice a l.length cap] w fun e w' => e = .returned (.tuple #[sv (Tree.root l), .int .i64 0]) ∧ Below w.heap.size w w' := by
  have := Root_any l a cap w hlc hc hA T
  rwa [rootOut, if_pos (wrg_hs h hl)] at this
theorem Tabs.next {w w' : World} (h : Tabs w) (hb : Below w.heap.size w w') : Tabs w' := h.below hb h.lt
end Go.Proofs.YtkbngmhhlpdpnaaDoor

namespace Go.Proofs.YtkbngmhhlpdpnaaDoor.Tree
/-- the path, each hash with its side -/
def zpF : Nat → Nat → List T → List (Bool × T)
  | 0, _, _ => []
  | f + 1, m, l => if l.length < 2 then [] else
    if m < sp l.length then zpF f m (l.take (sp l.length)) ++ [(true, root (l.drop (sp l.length)))] else zpF f (m - sp l.length) (l.drop (sp l.length)) ++ [(false, root (l.take (sp l.length)))]
def zp (m : Nat) (l : List T) : List (Bool × T) := zpF l.length m l
theorem zpF_eq : ∀ (f g m : Nat) (l : List T), l.length ≤ f → l.length ≤ g → zpF f m l = zpF g m l
  | 0, 0, _, _, _, _ => rfl
  | 0, g + 1, m, l, h, _ => by rw [zpF, zpF, if_pos (by omega)]
  | f + 1, 0, m, l, _, h => by rw [zpF, zpF, if_pos (by omega)]
  | f + 1, g + 1, m, l, h1, h2 => by
    rw [zpF, zpF]
    by_cases h : l.length < 2
    · rw [if_pos h, if_pos h]
    · have a := sp_lt (n := l.length) (by omega)
      have b := sp_pos (n := l.length) (by omega)
      rw [if_neg h, if_neg h, zpF_eq f g _ _ (by simp; omega) (by simp; omega), zpF_eq f g _ (l.drop _) (by simp; omega) (by simp; omega)]
theorem zp_small {m : Nat} {l : List T} (h : l.length < 2) : zp m l = [] := by
  rw [zp, zpF_eq _ 1 _ _ (Nat.le_refl _) (by omega), zpF, if_pos h]
theorem zp_cut {m : Nat} {l : List T} (h : 2 ≤ l.length) : zp m l = if m < sp l.length then zp m (l.take (sp l.length)) ++ [(true, root (l.drop (sp l.length)))] else zp (m - sp l.length) (l.drop (sp l.length)) ++ [(false, root (l.take (sp l.length)))] := by
  have a := sp_lt h
  have b := sp_pos h
  have e : zp m l = zpF (l.length - 1 + 1) m l := zpF_eq _ _ _ _ (by omega) (by omega)
  rw [e, zpF, if_neg (by omega), zp, zp, zpF_eq (l.length - 1) _ _ (l.take _) (by simp; omega) (Nat.le_refl _), zpF_eq (l.length - 1) _ _ (l.drop _) (by simp; omega) (Nat.le_refl _)]
theorem path_zp : ∀ (f m : Nat) (l : List T), l.length ≤ f → path m l = (zp m l).map (·.2)
  | 0, m, l, h => by rw [path_small (by omega), zp_small (by omega)]; rfl
  | f + 1, m, l, h => by
    by_cases h2 : l.length < 2
    · rw [path_small h2, zp_small h2]; rfl
    · have a := sp_lt (n := l.length) (by omega)
      have b := sp_pos (n := l.length) (by omega)
      rw [path_cut (by omega), zp_cut (by omega)]
      split
      · rw [path_zp f m _ (by simp; omega)]; simp
      · rw [path_zp f _ (l.drop _) (by simp; omega)]; simp
/-- going up -/
def up (h : T) (zs : List (Bool × T)) : T := zs.foldl (fun h z => if z.1 then nd h z.2 else nd z.2 h) h
theorem up_step (h : T) (zs : List (Bool × T)) (z : Bool × T) : up h (zs ++ [z]) = if z.1 then nd (up h zs) z.2 else nd z.2 (up h zs) := by
  simp [up]
theorem up_root : ∀ (f m : Nat) (l : List T) (h : m < l.length), l.length ≤ f → up l[m] (zp m l) = root l
  | 0, m, l, h, hf => by omega
  | f + 1, m, l, h, hf => by
    by_cases h2 : l.length < 2
    · have h1 : l.length = 1 := by omega
      obtain ⟨a, rfl⟩ := List.length_eq_one_iff.1 h1
      have : m = 0 := by simp at h; omega
      subst this
      rw [zp_small h2]; rfl
    · have a := sp_lt (n := l.length) (by omega)
      have b := sp_pos (n := l.length) (by omega)
      rw [zp_cut (by omega), root_cut (l := l) (by omega)]
      by_cases hm : m < sp l.length
      · rw [if_pos hm, up_step]
        have := up_root f m (l.take (sp l.length)) (by simp; omega) (by simp; omega)
        rw [List.getElem_take] at this
        rw [this]; rfl
      · rw [if_neg hm, up_step]
        have := up_root f (m - sp l.length) (l.drop (sp l.length)) (by simp; omega) (by simp; omega)
        rw [List.getElem_drop] at this
        have e : sp l.length + (m - sp l.length) = m := by omega
        simp only [e] at this
        rw [this]; rfl
def rgt (zs : List (Bool × T)) : List T := (zs.filter (·.1)).map (·.2)
def lft (zs : List (Bool × T)) : List T := ((zs.filter (fun z => !z.1)).map (·.2)).reverse
theorem many_zp : ∀ (f m b : Nat) (l : List T), l.length ≤ f → m < l.length → many [b + m] b l = lft (zp m l) ++ rgt (zp m l)
  | 0, m, b, l, hf, h => by omega
  | f + 1, m, b, l, hf, h => by
    by_cases h2 : l.length < 2
    · rw [zp_small h2, many_one (by simp) (by omega)]; rfl
    · have x := sp_lt (n := l.length) (by omega)
      have y := sp_pos (n := l.length) (by omega)
      rw [zp_cut (by omega), many_cut (by simp) (by omega)]
      by_cases hm : m < sp l.length
      · have ih := many_zp f m b (l.take (sp l.length)) (by simp; omega) (by simp; omega)
        rw [if_pos hm, List.filter_cons_of_pos (by simp; omega), List.filter_nil, List.filter_cons_of_neg (by simp; omega), List.filter_nil, ih, many_none (by simp; omega)]
        simp [lft, rgt]
      · have ih := many_zp f (m - sp l.length) (b + sp l.length) (l.drop (sp l.length)) (by simp; omega) (by simp; omega)
        rw [show b + sp l.length + (m - sp l.length) = b + m from by omega] at ih
        rw [if_neg hm, List.filter_cons_of_neg (by simp; omega), List.filter_nil, List.filter_cons_of_pos (by simp; omega), List.filter_nil, ih, many_none (by simp; omega)]
        simp [lft, rgt]
theorem lr_len (zs : List (Bool × T)) : (lft zs ++ rgt zs).length = zs.length := by
  induction zs with
  | nil => rfl
  | cons z zs ih =>
    obtain ⟨b, t⟩ := z
    cases b <;> simp [lft, rgt] at * <;> omega
/-- how many digits -/
def dg (x : Nat) : Nat := if x = 0 then 0 else x.log2 + 1
theorem dg_le {x L : Nat} (h : x < 2 ^ L) : dg x ≤ L := by
  unfold dg
  split
  · omega
  · rename_i h0
    have := (Nat.log2_lt h0).2 h
    omega
theorem dg_half {x : Nat} (h : 0 < x) : dg x = dg (x / 2) + 1 := by
  unfold dg
  rw [if_neg (by omega)]
  rw [Nat.log2_def]
  by_cases h2 : 2 ≤ x
  · rw [if_pos h2, if_neg (by omega)]
  · rw [if_neg h2, if_pos (by omega)]
theorem zp_dg : ∀ (f m : Nat) (l : List T), l.length ≤ f → (zp m l).length ≤ dg (l.length - 1)
  | 0, m, l, h => by rw [zp_small (by omega)]; simp
  | f + 1, m, l, h => by
    by_cases h2 : l.length < 2
    · rw [zp_small h2]; simp
    · have a := sp_lt (n := l.length) (by omega)
      have b := sp_pos (n := l.length) (by omega)
      have c := sp_ge (n := l.length) (by omega)
      have d := sp_eq (n := l.length) (by omega)
      have e : dg (l.length - 1) = (l.length - 1).log2 + 1 := by unfold dg; rw [if_neg (by omega)]
      rw [zp_cut (by omega), e]
      split
      · have ih := zp_dg f m (l.take (sp l.length)) (by simp; omega)
        have : dg ((l.take (sp l.length)).length - 1) ≤ (l.length - 1).log2 := dg_le (by rw [List.length_take, ← d]; omega)
        rw [List.length_append, List.length_singleton]; omega
      · have ih := zp_dg f (m - sp l.length) (l.drop (sp l.length)) (by simp; omega)
        have : dg ((l.drop (sp l.length)).length - 1) ≤ (l.length - 1).log2 := dg_le (by rw [List.length_drop, ← d]; omega)
        rw [List.length_append, List.length_singleton]; omega
end Go.Proofs.YtkbngmhhlpdpnaaDoor.Tree
