import Derived.Test.YtmhgdcfmfcjagaaGreatDoorPkA1
import Derived.LaidEql
import Derived.Stop.Asserts
import Derived.RowKitTokens
import Derived.Test.YtmhgdcfmfcjagaaGreatDoorPkG2
import Derived.Test.YtmhgdcfmfcjagaaGreatDoorPkF1
namespace Go.Proofs.YtmhgdcfmfcjagaaGreatDoor
open Go.RowKit Go.Extern.Stop Go.Stop Go.Extern
theorem as_nil (t : Value) (w : World) :
    Calls Tryz.prog 93 #[.nilIface, t] w fun e w' => e = .returned (.bool false) ∧ w' = w := by
  go_enter Tryz.func93, Tryz.ntmps93
  go_wp2
  go_ret
  exact ⟨rfl, rfl⟩
theorem fvalueOfP (t : Addr) (w : World) : (ReflectliteValue.unpack (.iface 139 (.pointer (some t)))).run Tryz.prog w
    = .ok (.agg #[.pointer (some ⟨1, 139, none⟩), .pointer (some ⟨w.heap.size, 0, none⟩), .int .u64 150]) (w.alloc (.cells #[.pointer (some t)] 139)) := by kernel_rfl
theorem ftypeP (a : Addr) (w : World) : (ReflectliteValue.methodAny (ReflectliteValue.valueError "reflectlite.Value.Type" 0) (fun t _ _ _ => ReflectliteType.toType t) #[.agg #[.pointer (some ⟨1, 139, none⟩), .pointer (some a), .int .u64 150]]).run Tryz.prog w
    = .ok (.iface 178 (.agg #[.pointer (some ⟨1, 139, none⟩)])) w := by kernel_rfl
theorem fmethodKind (h : Value) (w : World) : (Go.method 342 178 (.agg #[h]) "Kind").run Tryz.prog w = .ok (145, h) w := by kernel_rfl
theorem fkindP (w : World) : ((ReflectliteType.abiMethod fun t => (fun a : Nat => Value.int IntKind.u8 (a : Int)) <$> Rtype.kind t) #[.pointer (some ⟨1, 139, none⟩)]).run Tryz.prog w = .ok (.int .u8 22) w := by kernel_rfl
theorem fkindF (w : World) : ((ReflectliteType.abiMethod fun t => (fun a : Nat => Value.int IntKind.u8 (a : Int)) <$> Rtype.kind t) #[.pointer (some ⟨1, 137, none⟩)]).run Tryz.prog w = .ok (.int .u8 25) w := by kernel_rfl
theorem rlm (z : Sem Value) (f : TypeId → Addr → Nat → Nat → Sem Value) (v : Value) :
    ReflectliteValue.method z f #[v] = (do match ← ReflectliteValue.parts v with | none => z | some (t, a, fl) => f t a fl (fl % 32)) := rfl
theorem fpartsP (a : Addr) (w : World) : (ReflectliteValue.parts (.agg #[.pointer (some ⟨1, 139, none⟩), .pointer (some a), .int .u64 150])).run Tryz.prog w = .ok (some (139, a, 150)) w := by kernel_rfl
theorem fisNilP (a p : Addr) (W : World) (ha : W.cell? a = some (.pointer (some p))) :
    (ReflectliteValue.method (ReflectliteValue.valueError "reflectlite.Value.IsNil" 0) ReflectliteValue.isNil #[.agg #[.pointer (some ⟨1, 139, none⟩), .pointer (some a), .int .u64 150]]).run Tryz.prog W = .ok (.bool false) W := by
  rw [rlm]
  simp only [Sem.run_bind, fpartsP, Result.andThen]
  simp [ReflectliteValue.isNil, loadVar, isAgg, underlying, Tryz.underlying139, ha, Result.andThen]
theorem fmethodElem (h : Value) (w : World) : (Go.method 342 178 (.agg #[h]) "Elem").run Tryz.prog w = .ok (207, .agg #[h]) w := by kernel_rfl
theorem fmethodImplements (h : Value) (w : World) : (Go.method 342 178 (.agg #[h]) "Implements").run Tryz.prog w = .ok (208, .agg #[h]) w := by kernel_rfl
theorem fmethodAssignableTo (h : Value) (w : World) : (Go.method 342 178 (.agg #[h]) "AssignableTo").run Tryz.prog w = .ok (205, .agg #[h]) w := by kernel_rfl
theorem felemP (w : World) : (ReflectliteType.method ReflectliteType.elem #[.agg #[.pointer (some ⟨1, 139, none⟩)]]).run Tryz.prog w = .ok (.iface 178 (.agg #[.pointer (some ⟨1, 137, none⟩)])) w := by kernel_rfl
theorem fimplementsF (w : World) : (ReflectliteType.relation "Implements" ReflectliteType.implements_ #[.agg #[.pointer (some ⟨1, 137, none⟩)], .iface 178 (.agg #[.pointer (some ⟨1, 93, none⟩)])]).run Tryz.prog w = .ok (.bool true) w := by kernel_rfl
theorem ftypeOfF (v : Value) (w : World) : (ReflectliteType.typeOf #[.iface 137 v]).run Tryz.prog w = .ok (.iface 178 (.agg #[.pointer (some ⟨1, 137, none⟩)])) w := by kernel_rfl
theorem fassignableF (w : World) : (ReflectliteType.relation "AssignableTo" ReflectliteType.assignableTo #[.agg #[.pointer (some ⟨1, 137, none⟩)], .iface 178 (.agg #[.pointer (some ⟨1, 137, none⟩)])]).run Tryz.prog w = .ok (.bool true) w := by kernel_rfl
theorem fvalueOfF (x y : Int) (w : World) : (ReflectliteValue.unpack (.iface 137 (.agg #[.int .i64 x, .int .i64 y]))).run Tryz.prog w
    = .ok (.agg #[.pointer (some ⟨1, 137, none⟩), .pointer (some ⟨w.heap.size, 0, none⟩), .int .u64 153]) (w.alloc (.cells #[.int .i64 x, .int .i64 y] 137)) := by kernel_rfl
theorem felemOfP (w : World) : (Rtype.elem? 139).run Tryz.prog w = .ok (some 137) w := by kernel_rfl
theorem fmkF (p : Addr) (w : World) : (ReflectliteValue.mk 137 p ReflectliteValue.flagAddr).run Tryz.prog w = .ok (.agg #[.pointer (some ⟨1, 137, none⟩), .pointer (some p), .int .u64 409]) w := by kernel_rfl
theorem felemV (a p : Addr) (W : World) (ha : W.cell? a = some (.pointer (some p))) :
    (ReflectliteValue.method (ReflectliteValue.valueError "reflectlite.Value.Elem" 0) ReflectliteValue.elem #[.agg #[.pointer (some ⟨1, 139, none⟩), .pointer (some a), .int .u64 150]]).run Tryz.prog W
      = .ok (.agg #[.pointer (some ⟨1, 137, none⟩), .pointer (some p), .int .u64 409]) W := by
  rw [rlm]
  simp only [Sem.run_bind, fpartsP, Result.andThen]
  simp [ReflectliteValue.elem, loadVar, isAgg, underlying, Tryz.underlying139, ha, Result.andThen, felemOfP, fmkF]
theorem rls (v x : Value) : ReflectliteValue.set #[v, x] = (do
    let (some (dst, a, fl), some (src, b, _)) := (← ReflectliteValue.parts v, ← ReflectliteValue.parts x)
      | unsupported (.noEntry "extern/(internal/reflectlite.Value).Set.zeroValue")
    if fl / ReflectliteValue.flagAddr % 2 == 0 then unsupported (.noEntry "extern/(internal/reflectlite.Value).Set.unaddressable")
    let val ← loadVar src b
    if ← Rtype.directlyAssignable dst src then storeVar dst a val
    else if ← Rtype.implements dst src then
      if (← Rtype.kind src) == 20 then
        match val with
        | .nilIface => unsupported (.noEntry "extern/reflectlite: a nil value of one interface type handed on as a value of another")
        | _ => storeVar dst a val
      else storeVar dst a (.iface src val)
    else panicString ("reflectlite.Set: value of type " ++ (← Rtype.spelt src) ++ " is not assignable to type " ++ (← Rtype.spelt dst))
    pure (.tuple #[])) := rfl
theorem fpartsFa (a : Addr) (w : World) : (ReflectliteValue.parts (.agg #[.pointer (some ⟨1, 137, none⟩), .pointer (some a), .int .u64 409])).run Tryz.prog w = .ok (some (137, a, 409)) w := by kernel_rfl
theorem fpartsF (a : Addr) (w : World) : (ReflectliteValue.parts (.agg #[.pointer (some ⟨1, 137, none⟩), .pointer (some a), .int .u64 153])).run Tryz.prog w = .ok (some (137, a, 153)) w := by kernel_rfl
theorem fdirect (w : World) : (Rtype.directlyAssignable 137 137).run Tryz.prog w = .ok true w := by kernel_rfl
theorem fset (tb b : Nat) (x y : Int) (o0 o1 : Value) (W : World) (hb0 : W.cell? ⟨b, 0, none⟩ = some (.int .i64 x)) (hb1 : W.cell? ⟨b, 1, none⟩ = some (.int .i64 y)) (ht : W.heap[tb]? = some (.cells #[o0, o1] 137 (0, 0))) :
    (ReflectliteValue.set #[.agg #[.pointer (some ⟨1, 137, none⟩), .pointer (some ⟨tb, 0, none⟩), .int .u64 409], .agg #[.pointer (some ⟨1, 137, none⟩), .pointer (some ⟨b, 0, none⟩), .int .u64 153]]).run Tryz.prog W
      = .ok (.tuple #[]) (W.setRow tb #[.int .i64 x, .int .i64 y]) := by
  have hl : (loadCells ⟨b, 0, none⟩ 2).run Tryz.prog W = .ok #[.int .i64 x, .int .i64 y] W :=
    run_loadCells_list (P := Tryz.prog) W ⟨b, 0, none⟩ [.int .i64 x, .int .i64 y] (fun j v hv => by
      rw [Addr.add_mid]
      match j, hv with
      | 0, hv => obtain rfl := Option.some.inj hv; exact hb0
      | 1, hv => obtain rfl := Option.some.inj hv; exact hb1)
  have hst := run_storeCells_at Tryz.prog tb 0 137 [.int .i64 x, .int .i64 y] 0 #[o0, o1] W ht (by simp) (fun v hv => by simp at hv; rcases hv with rfl | rfl <;> rfl)
  rw [rls]
  simp only [Sem.run_bind, fpartsFa, fpartsF, Result.andThen]
  simp [ReflectliteValue.flagAddr, loadVar, isAgg, underlying, Tryz.underlying137, Result.andThen, fdirect, hl, storeVar, Value.cells, hst]
def Lay (w : World) : Prop := w.cell? ⟨0, 0, none⟩ = some (.iface 178 (.agg #[.pointer (some ⟨1, 93, none⟩)]))
theorem Lay.lt {w : World} (h : Lay w) : 1 ≤ w.heap.size := by
  have := block_lt_of_cell h
  exact this
theorem Lay.below {w w' : World} {B : Nat} (h : Lay w) (hb : Below B w w') (hB : 1 ≤ B) : Lay w' := (hb.cell (p := ⟨0, 0, none⟩) (by show 0 < B; omega)).trans h
set_option maxRecDepth 100000 in
set_option maxHeartbeats 4000000 in
theorem as_hit (x y : Int) (tb : Nat) (o0 o1 : Value) (w : World) (hg : Lay w) (ht : w.heap[tb]? = some (.cells #[o0, o1] 137 (0, 0))) :
    Calls Tryz.prog 93 #[.iface 137 (.agg #[.int .i64 x, .int .i64 y]), .iface 139 (.pointer (some ⟨tb, 0, none⟩))] w fun ev w' => ev = .returned (.bool true) ∧ w'.heap[tb]? = some (.cells #[.int .i64 x, .int .i64 y] 137 (0, 0)) ∧ But tb w w' := by
  have h6 := @run_callFunc_extern Tryz.prog 112 _ (fun args => ReflectliteValue.unpack (args.getD 0 (.tuple #[]))) Tryz.func112 (by kernel_rfl) (by kernel_rfl) (by kernel_rfl) (by kernel_rfl)
  have h7 := @run_callFunc_extern Tryz.prog 113 _ (ReflectliteValue.methodAny (ReflectliteValue.valueError "reflectlite.Value.Type" 0) (fun t _ _ _ => ReflectliteType.toType t)) Tryz.func113 (by kernel_rfl) (by kernel_rfl) (by kernel_rfl) (by kernel_rfl)
  have h8 := @run_callFunc_extern Tryz.prog 114 _ (ReflectliteValue.method (ReflectliteValue.valueError "reflectlite.Value.IsNil" 0) ReflectliteValue.isNil) Tryz.func114 (by kernel_rfl) (by kernel_rfl) (by kernel_rfl) (by kernel_rfl)
  have h27 := @run_callFunc_extern Tryz.prog 145 _ (ReflectliteType.abiMethod fun t => do pure (.int .u8 (← Rtype.kind t))) Tryz.func145 (by kernel_rfl) (by kernel_rfl) (by kernel_rfl) (by kernel_rfl)
  have h37 := @run_callFunc_extern Tryz.prog 207 _ (ReflectliteType.method ReflectliteType.elem) Tryz.func207 (by kernel_rfl) (by kernel_rfl) (by kernel_rfl) (by kernel_rfl)
  have h38 := @run_callFunc_extern Tryz.prog 208 _ (ReflectliteType.relation "Implements" ReflectliteType.implements_) Tryz.func208 (by kernel_rfl) (by kernel_rfl) (by kernel_rfl) (by kernel_rfl)
  have h10 := @run_callFunc_extern Tryz.prog 126 _ ReflectliteType.typeOf Tryz.func126 (by kernel_rfl) (by kernel_rfl) (by kernel_rfl) (by kernel_rfl)
  have h35 := @run_callFunc_extern Tryz.prog 205 _ (ReflectliteType.relation "AssignableTo" ReflectliteType.assignableTo) Tryz.func205 (by kernel_rfl) (by kernel_rfl) (by kernel_rfl) (by kernel_rfl)
  have h11 := @run_callFunc_extern Tryz.prog 127 _ (ReflectliteValue.method (ReflectliteValue.valueError "reflectlite.Value.Elem" 0) ReflectliteValue.elem) Tryz.func127 (by kernel_rfl) (by kernel_rfl) (by kernel_rfl) (by kernel_rfl)
  have h12 := @run_callFunc_extern Tryz.prog 128 _ ReflectliteValue.set Tryz.func128 (by kernel_rfl) (by kernel_rfl) (by kernel_rfl) (by kernel_rfl)
  have tO := ftypeOfF
  have mA := fmethodAssignableTo
  have aF := fassignableF
  have vF := fvalueOfF
  have f6 := fvalueOfP
  have f7 := ftypeP
  have mK := fmethodKind
  have mE := fmethodElem
  have mI := fmethodImplements
  have kP := fkindP
  have kF := fkindF
  have eP := felemP
  have iF := fimplementsF
  have n8 := fisNilP ⟨w.heap.size, 0, none⟩ ⟨tb, 0, none⟩ ((w.alloc (.cells #[.pointer (some ⟨tb, 0, none⟩)] 139)).alloc (.cells #[.pointer (some ⟨1, 139, none⟩), .pointer (some ⟨w.heap.size, 0, none⟩), .int .u64 150] 160)) (by simp)
  have hlt := hg.lt
  have htl : tb < w.heap.size := lt_of_heap ht
  have hg2 : ((w.alloc (.cells #[.pointer (some ⟨tb, 0, none⟩)] 139)).alloc (.cells #[.pointer (some ⟨1, 139, none⟩), .pointer (some ⟨w.heap.size, 0, none⟩), .int .u64 150] 160)).cell? ⟨0, 0, none⟩ = some (.iface 178 (.agg #[.pointer (some ⟨1, 93, none⟩)])) := by
    rw [World.cell?_alloc_lt _ _ ⟨0, 0, none⟩ (by simp), World.cell?_alloc_lt _ _ ⟨0, 0, none⟩ hlt]; exact hg
  have el := felemV ⟨w.heap.size, 0, none⟩ ⟨tb, 0, none⟩ (((w.alloc (.cells #[.pointer (some ⟨tb, 0, none⟩)] 139)).alloc (.cells #[.pointer (some ⟨1, 139, none⟩), .pointer (some ⟨w.heap.size, 0, none⟩), .int .u64 150] 160)).alloc (.cells #[.pointer (some ⟨1, 139, none⟩), .pointer (some ⟨w.heap.size, 0, none⟩), .int .u64 150] 160)) (by rw [World.cell?_alloc_lt _ _ ⟨w.heap.size, 0, none⟩ (by simp; omega)]; simp)
  have s1 := size_alloc w (.cells #[.pointer (some ⟨tb, 0, none⟩)] 139)
  have s2 := size_alloc (w.alloc (.cells #[.pointer (some ⟨tb, 0, none⟩)] 139)) (.cells #[.pointer (some ⟨1, 139, none⟩), .pointer (some ⟨w.heap.size, 0, none⟩), .int .u64 150] 160)
  have s3 := size_alloc ((w.alloc (.cells #[.pointer (some ⟨tb, 0, none⟩)] 139)).alloc (.cells #[.pointer (some ⟨1, 139, none⟩), .pointer (some ⟨w.heap.size, 0, none⟩), .int .u64 150] 160)) (.cells #[.pointer (some ⟨1, 139, none⟩), .pointer (some ⟨w.heap.size, 0, none⟩), .int .u64 150] 160)
  obtain ⟨W4, hW4⟩ : ∃ W4, W4 = ((((w.alloc (.cells #[.pointer (some ⟨tb, 0, none⟩)] 139)).alloc (.cells #[.pointer (some ⟨1, 139, none⟩), .pointer (some ⟨w.heap.size, 0, none⟩), .int .u64 150] 160)).alloc (.cells #[.pointer (some ⟨1, 139, none⟩), .pointer (some ⟨w.heap.size, 0, none⟩), .int .u64 150] 160)).alloc (.cells #[.int .i64 x, .int .i64 y] 137)) := ⟨_, rfl⟩
  have bw : Below w.heap.size w W4 := by
    rw [hW4]
    exact ((((Below.refl _ _).alloc (Nat.le_refl _) _).alloc (by omega) _).alloc (by omega) _).alloc (by omega) _
  have ht4 : W4.heap[tb]? = some (.cells #[o0, o1] 137 (0, 0)) := (bw.block tb htl).trans ht
  have st := fset tb (w.heap.size + 1 + 1 + 1) x y o0 o1 W4
    (by rw [hW4, World.cell?_alloc_at _ _ _ _ (by simp)]; rfl)
    (by rw [hW4, World.cell?_alloc_at _ _ _ _ (by simp)]; rfl) ht4
  rw [hW4] at st
  go_enter Tryz.func93, Tryz.ntmps93
  go_wp2
  refine wp_loop_rounds 1 ?_
  rw [rounds_succ]
  go_wp2
  go_ret
  rw [← hW4]
  exact ⟨rfl, setRow_heap _ _ _ _ _ _ ht4, (But.ofBelow bw).setRow _⟩
end Go.Proofs.YtmhgdcfmfcjagaaGreatDoor

namespace Go.Proofs.YtmhgdcfmfcjagaaGreatDoor
open Go.RowKit Cod
def WSt.text : WSt → List UInt8
  | .ok bs => bs
  | .bad _ => []
def WSt.err : WSt → Int
  | .ok _ => 0
  | .bad e => e
theorem conv_nil (w : World) : (convert 91 9 (.slice none 0 0)).run Tryz.prog w = .ok (.string ⟨#[]⟩) w := by kernel_rfl
theorem conv_any {w : World} {base : Nat} {v : Value} {bs : List UInt8} (h : OwnB w base v bs) : (convert 91 9 v).run Tryz.prog w = .ok (sv bs) w := by
  by_cases hn : v = .slice none 0 0
  · subst hn
    have hbs : bs = [] := by
      rcases h with ⟨_, h⟩ | ⟨g, cap, h, _⟩
      · simpa [bv] using h
      · cases h
    subst hbs
    exact conv_nil w
  · exact conv_own h hn
set_option maxRecDepth 100000 in
set_option maxHeartbeats 1000000 in
theorem wDone_any (base b : Nat) (v : Value) (st : WSt) (w : World) (T : Lay w) (hW : Wri w base b v st) :
    Calls Tryz.prog 62 #[.pointer (some ⟨b, 0, none⟩)] w fun r w' => r = .returned (.tuple #[sv st.text, .int .i64 st.err]) ∧ Below w.heap.size w w' := by
  have hl := hW.lt
  have hT := T.lt
  have HT := hid T
  have bw : Below w.heap.size w (w.alloc (.cells #[.int .i64 0, .int .i64 0] 137)) := (Below.refl _ _).alloc (Nat.le_refl _) _
  have W1 := hW.below bw
  have T1 := hid (T.below bw hT)
  have hrow := heap_alloc_new w (.cells #[.int .i64 0, .int .i64 0] 137)
  have hsz := size_alloc w (.cells #[.int .i64 0, .int .i64 0] 137)
  have HW := hid hW
  have BW := hid bw
  clear hW T bw
  go_enter Tryz.func62, Tryz.ntmps62
  cases st with
  | bad f =>
    have c1 : (w.alloc (.cells #[.int .i64 0, .int .i64 0] 137)).cell? ⟨b, 1, none⟩ = some (.iface 137 (.agg #[.int .i64 f, .int .i64 0])) := by rw [cell_of_row _ _ _ _ _ _ W1.2.1]; rfl
    have HR := hid hrow
    clear W1 hrow
    go_wp2_with (go_at_call 93; fail)
    go_at_call 93
    refine (as_hit f 0 w.heap.size _ _ _ T1.out HR.out).mono ?_
    rintro e w2 ⟨rfl, h1, h2⟩
    have c2 : w2.cell? ⟨w.heap.size, 0, none⟩ = some (.int .i64 f) := by rw [cell_of_row _ _ _ _ _ _ h1]; rfl
    have B2 := hid (BW.out.trans (h2.below (Nat.le_refl _) (by omega)))
    clear h1 h2 c1
    go_wp2
    go_quiet (fail)
    go_wp2
    go_ret2
    exact ⟨rfl, below_drewN B2.out _⟩
  | ok bs =>
    have c1 : (w.alloc (.cells #[.int .i64 0, .int .i64 0] 137)).cell? ⟨b, 1, none⟩ = some .nilIface := by rw [cell_of_row _ _ _ _ _ _ W1.2.1]; rfl
    have c0 : (w.alloc (.cells #[.int .i64 0, .int .i64 0] 137)).cell? ⟨b, 0, none⟩ = some v := by rw [cell_of_row _ _ _ _ _ _ W1.2.1]; rfl
    have hc := conv_any W1.2.2.1
    clear W1 hrow
    go_wp2_with (go_at_call 93; refine (as_nil _ _).mono ?_; rintro e w' ⟨rfl, hw'⟩; rw [hw']; clear hw' w')
    go_ret2
    exact ⟨rfl, BW.out⟩
end Go.Proofs.YtmhgdcfmfcjagaaGreatDoor

namespace Go.Proofs.YtmhgdcfmfcjagaaGreatDoor
open Go.RowKit Cod
set_option maxRecDepth 100000 in
theorem frame_any (s : ByteArray) (w : World) :
    Calls Tryz.prog 63 #[.string s] w fun r w' => r = .returned (if 1048576 < s.size then .tuple #[sv [], .int .i64 22] else .tuple #[sv (wrText s.data.toList), .int .i64 0]) ∧ Below w.heap.size w w' := by
  by_cases h : 1048576 < s.size
  · rw [if_pos h]
    have e : textErr s.size 1048576 = 22 := by rw [textErr, if_neg (by omega), if_pos (by omega)]
    go_enter Tryz.func63, Tryz.ntmps63
    go_wp2_with (go_at_call 94; refine (textFault_any s 1048576 _).mono ?_; rw [e]; rintro e w' ⟨rfl, hw'⟩; rw [hw']; clear hw' w')
    go_ret2
    exact ⟨rfl, Below.refl _ _⟩
  · rw [if_neg h]
    have e : textErr s.size 1048576 = 0 := by rw [textErr, if_neg (by omega), if_neg (by omega)]
    have h9 : (digs s.size).length ≤ 9 := digs_len9 (by omega)
    have hT := appendText_any w.heap.size (.slice none 0 0) [] s w (by omega) (Own.nil _ _) (by rw [wrText, List.length_append, data_length, List.length_nil]; omega) (Nat.le_refl _)
    go_enter Tryz.func63, Tryz.ntmps63
    go_wp2_with (first
      | (go_at_call 94; refine (textFault_any s 1048576 _).mono ?_; rw [e]; rintro e w' ⟨rfl, hw'⟩; rw [hw']; clear hw' w')
      | (go_at_call 95; fail))
    go_at_call 95
    refine hT.mono ?_
    rintro x w1 ⟨v1, rfl, h1, h2, h3⟩
    have hc := conv_any h1
    have H2 := hid (h2.below (Nat.le_refl _) (fun k _ hk => by cases hk))
    clear h1 h2 h3 hT
    go_wp2
    go_ret2
    exact ⟨rfl, H2.out⟩
set_option maxRecDepth 100000 in
theorem unframe_any (s : ByteArray) (w : World) (hs : s.size ≤ maxLen) :
    Calls Tryz.prog 86 #[.string s] w fun r w' => r = .returned (tupS (rdText s.data.toList 1048576)) ∧ Below w.heap.size w w' := by
  have hN := textAt_any s 1048576 w hs
  cases hR : rdText s.data.toList 1048576 with
  | bad e =>
    rw [hR] at hN
    simp only [tupS] at hN
    clear hR
    go_enter Tryz.func86, Tryz.ntmps86
    go_wp2_with (go_at_call 104; refine hN.mono ?_; rintro x w1 ⟨rfl, h1⟩; have H1 := hid h1; clear h1)
    go_ret3
    exact ⟨rfl, H1.out⟩
  | good t r =>
    rw [hR] at hN
    simp only [tupS] at hN
    clear hR
    go_enter Tryz.func86, Tryz.ntmps86
    go_wp2_with (go_at_call 104; refine hN.mono ?_; rintro x w1 ⟨rfl, h1⟩; have H1 := hid h1; clear h1)
    go_ret3
    exact ⟨rfl, H1.out⟩
end Go.Proofs.YtmhgdcfmfcjagaaGreatDoor

namespace Go.Proofs.YtmhgdcfmfcjagaaGreatDoor
open Go.RowKit Cod
theorem app_cell {e t : TypeId} {z : Value} {bytes : Nat} (hu : Tryz.prog.underlying t = some (.slice e)) (hinf : (Tryz.prog.info? e).map (fun i => (i.zero, i.size, i.bytes)) = some (some z, 1, bytes)) (hzs : z.cells.size = 1)
    (w : World) (base : Nat) (v : Value) (cs : List Value) (x : Value) (hx : x.oneCell' = true) (hown : Own w base v cs) (hlen : (cs.length + 1) * bytes ≤ 140737488355328) (hl2 : cs.length + 1 ≤ 140737488355328) (hbase : base ≤ w.heap.size) :
    ∃ v' w', (Builtin.append_ #[t, t] t #[v, .slice (some ⟨w.heap.size, 0, none⟩) 1 1]).run Tryz.prog (w.alloc (.cells #[x] e)) = .ok v' w' ∧ Own w' base v' (cs ++ [x]) ∧ Keep (OwnS v) w w' ∧ From w v v' := by
  obtain ⟨i0, hi, hz0, hz1, hz2⟩ := info_parts hinf
  have hsrc : Src Tryz.prog 1 t (.slice (some ⟨w.heap.size, 0, none⟩) 1 1) 1 [x] (w.alloc (.cells #[x] e)) :=
    Src.ofSlice _ hu ⟨w.heap.size, 0, none⟩ 1 1 [x] (by simp) (fun j u hj => by
      rw [Addr.add_mid, cell_of_row _ _ _ _ _ _ (heap_alloc_new w _), Nat.zero_add]; simpa using hj) (fun u hu => by simp at hu; subst hu; exact hx)
  obtain ⟨v', w', h1, h2, h3, h4⟩ := run_append_O (P := Tryz.prog) (w.alloc (.cells #[x] e)) base t t t e i0 z hu hi hz0 hz1 hzs v cs (hown.alloc _) _ 1 [x] hsrc
    (by rw [hz2]; exact hlen) (by rw [maxLen]; omega) (by rw [size_alloc]; omega) (fun _ => by omega)
  refine ⟨v', w', h1, h2, ?_, fun k hk => ?_⟩
  · refine Keep.trans (S := OwnS v) (w1 := w.alloc (.cells #[x] e)) (Keep.ofBelow ((Below.refl _ _).alloc (Nat.le_refl _) _)) (Keep.ofGrown (S := OwnS v) h3 (fun k hk => hk)) (fun _ _ h => h)
  · rcases h4 with h4 | h4
    · exact .inl (h4 ▸ hk)
    · rw [h4, size_alloc] at hk; cases hk; exact .inr (by omega)
theorem infoI : (Tryz.prog.info? 3).map (fun i => (i.zero, i.size, i.bytes)) = some (some (.int .i64 0), 1, 8) := by kernel_rfl
def nvs (l : List Nat) : List Value := l.map fun n : Nat => Value.int .i64 (n : Int)
theorem nvs_length (l : List Nat) : (nvs l).length = l.length := by simp [nvs]
theorem nvs_append (l : List Nat) (n : Nat) : nvs (l ++ [n]) = nvs l ++ [.int .i64 (n : Int)] := by simp [nvs]
theorem svs_append (l : List (List UInt8)) (p : List UInt8) : svs (l ++ [p]) = svs l ++ [sv p] := by simp [svs]
theorem app_int (w : World) (base : Nat) (v : Value) (l : List Nat) (n : Nat) (hown : Own w base v (nvs l)) (hlen : l.length ≤ 17592186044000) (hbase : base ≤ w.heap.size) :
    ∃ v' w', (Builtin.append_ #[22, 22] 22 #[v, .slice (some ⟨w.heap.size, 0, none⟩) 1 1]).run Tryz.prog (w.alloc (.cells #[.int .i64 (n : Int)] 3)) = .ok v' w' ∧ Own w' base v' (nvs (l ++ [n])) ∧ Keep (OwnS v) w w' ∧ From w v v' := by
  rw [nvs_append]
  exact app_cell Tryz.underlying22 infoI rfl w base v (nvs l) _ rfl hown (by rw [nvs_length]; omega) (by rw [nvs_length]; omega) hbase
theorem app_txt (w : World) (base : Nat) (v : Value) (l : List (List UInt8)) (x : Value) (p : List UInt8) (hx : sv p = x) (hown : Own w base v (svs l)) (hlen : l.length ≤ 8796093022000) (hbase : base ≤ w.heap.size) :
    ∃ v' w', (Builtin.append_ #[23, 23] 23 #[v, .slice (some ⟨w.heap.size, 0, none⟩) 1 1]).run Tryz.prog (w.alloc (.cells #[x] 9)) = .ok v' w' ∧ Own w' base v' (svs (l ++ [p])) ∧ Keep (OwnS v) w w' ∧ From w v v' := by
  subst hx
  rw [svs_append]
  exact app_cell Tryz.underlying23 infoS rfl w base v (svs l) _ rfl hown (by rw [svs_length]; omega) (by rw [svs_length]; omega) hbase
def LPost {α : Type} (cells : α → List Value) (w : World) (x : Rd α) (r : Ending) (w' : World) : Prop :=
  (match x with
    | .bad e => r = .returned (.tuple #[.slice none 0 0, sv [], .int .i64 (e : Int)])
    | .good l rest => ∃ v, r = .returned (.tuple #[v, sv rest, .int .i64 0]) ∧ Own w' w.heap.size v (cells l)) ∧ Below w.heap.size w w'
theorem num_len {s : List UInt8} {n : Nat} {r : List UInt8} (h : rdNum s = .good n r) : r.length + 1 ≤ s.length := by
  obtain ⟨e, _⟩ := num_back h
  have := congrArg List.length e
  have := digs_pos n
  rw [List.length_append] at *
  omega
theorem many_len {s : List UInt8} {n : Nat} {m : Int} {r : List UInt8} (h : rdMany s m = .good n r) : r.length + 1 ≤ s.length ∧ n ≤ 4611686018427387904 := by
  obtain ⟨e, h2, _⟩ := many_back h
  have := congrArg List.length e
  have := digs_pos n
  rw [List.length_append] at *
  exact ⟨by omega, h2⟩
theorem many_most {s : List UInt8} {n : Nat} {m : Int} {r : List UInt8} (h : rdMany s m = .good n r) : (n : Int) ≤ m := (many_back h).2.2.1
theorem text_len {s : List UInt8} {t : List UInt8} {m : Int} {r : List UInt8} (h : rdText s m = .good t r) : r.length + 1 ≤ s.length := by
  obtain ⟨e, h2, _⟩ := text_back h
  have := congrArg List.length e
  have := digs_pos t.length
  rw [wrText, List.length_append, List.length_append] at *
  omega
theorem below_new {w wr w2 : World} {v : Value} {cs : List Value} (hb : Below w.heap.size w wr) (ho : Own wr w.heap.size v cs) (hk : Keep (OwnS v) wr w2) : Below w.heap.size w w2 :=
  hb.trans (hk.below hb.size (fun k hk' e => by have := ho.ge k e; omega))
set_option maxRecDepth 100000 in
set_option maxHeartbeats 2000000 in
theorem risingAt_any (s : ByteArray) (many : Int) (w : World) (hs : s.size ≤ 9223372036854775807) (hB : s.size ≤ 17592186044000 ∨ many ≤ 17592186044000) :
    Calls Tryz.prog 197 #[.string s, .int .i64 many] w (LPost nvs w (rdRising s.data.toList many)) := by
  rw [rdRising]
  have hN := manyAt_any s many w (by unfold maxLen; omega)
  have hnz := nz_many s.data.toList many
  cases hR : rdMany s.data.toList many with
  | bad e =>
    rw [hR] at hN
    simp only [tupN] at hN
    have he := hnz e hR
    have he' : ((e : Int) == 0) = false := by simp; omega
    clear hR hnz
    rw [Rd.bind_bad]
    go_enter Tryz.func197, Tryz.ntmps197
    go_wp2_with (go_at_call 124; refine hN.mono ?_; rintro x w1 ⟨rfl, h1⟩; have H1 := hid h1; clear h1)
    go_ret3
    exact ⟨rfl, H1.out⟩
  | good n r =>
    rw [hR] at hN
    simp only [tupN] at hN
    obtain ⟨hr1, hn62⟩ := many_len hR
    rw [data_length] at hr1
    have hBn : s.size ≤ 17592186044000 ∨ n ≤ 17592186044000 := by have := many_most hR; omega
    clear hR hnz
    rw [Rd.bind_good]
    obtain ⟨R, hRR⟩ : ∃ R, Hid (rdRiseN n 0 [] r = R) := ⟨_, rfl⟩
    rw [hRR.out]
    go_enter Tryz.func197, Tryz.ntmps197
    go_wp2_with (go_at_call 124; refine hN.mono ?_; rintro x w1 ⟨rfl, h1⟩; have H1 := hid h1; clear h1)
    clear hN
    go_loopw [8, 10, 11, 24] (fun re l le i w' => ∃ (k L : Nat) (l' : List Nat) (r' : List UInt8), k ≤ n ∧ i = .int .i64 k ∧ re = sv r' ∧ le = .int .i64 (L : Int) ∧ L ≤ 4611686018427387905 ∧ l'.length = k ∧ r'.length + k ≤ s.size ∧ Hid (Own w' w.heap.size l (nvs l')) ∧ Hid (rdRiseN (n - k) L l' r' = R) ∧ Hid (Below w.heap.size w w')) (fun _ _ _ i _ => n - (intOf i).toNat)
    case atStart => exact ⟨0, 0, [], r, by omega, rfl, rfl, rfl, by omega, rfl, by omega, hid (show Own _ _ _ (nvs []) from Own.nil _ _), hRR, H1⟩
    case round =>
      obtain ⟨k, L, l', r', hk, rfl, rfl, rfl, hL, hl', hr', ho, hr, hb⟩ := hrel
      by_cases hlt : k < n
      · have hlt' : (k : Int) < (n : Int) := by omega
        have hN := numAt_sv r' wr (by unfold maxLen; omega)
        have hr2 := hr.out
        obtain ⟨m, hm⟩ : ∃ m, n - k = m + 1 := ⟨n - k - 1, by omega⟩
        rw [hm, rdRiseN] at hr2
        cases hq : rdNum r' with
        | bad e =>
          have he := nz_num r' e hq
          have he' : ((e : Int) == 0) = false := by simp; omega
          rw [hq, Rd.bind_bad] at hr2
          rw [hq] at hN
          simp only [tupN] at hN
          subst hr2
          clear hq
          go_wp2_with (go_at_call 129; refine hN.mono ?_; rintro x w2 ⟨rfl, h2⟩; have H2 := hid (hb.out.trans (h2.mono hb.out.size)); clear h2)
          go_ret3
          exact ⟨rfl, H2.out⟩
        | good a r2 =>
          have hlen := num_len hq
          have ha62 := (num_back hq).2
          rw [top] at ha62
          rw [hq, Rd.bind_good] at hr2
          rw [hq] at hN
          simp only [tupN] at hN
          clear hq
          have b0 : (L : Int) ≤ 4611686018427387905 := by omega
          have b1 : (a : Int) ≤ 4611686018427387904 := by omega
          by_cases hc : top < L + a
          · rw [if_pos hc] at hr2
            subst hr2
            have b2 : 4611686018427387904 - (L : Int) < (a : Int) := by rw [top] at hc; omega
            clear hc
            go_wp2_with (go_at_call 129; refine hN.mono ?_; rintro x w2 ⟨rfl, h2⟩; have H2 := hid (hb.out.trans (h2.mono hb.out.size)); clear h2)
            go_ret3
            exact ⟨rfl, H2.out⟩
          · rw [if_neg hc] at hr2
            have HR2 := hid hr2
            have b2 : ¬ 4611686018427387904 - (L : Int) < (a : Int) := by rw [top] at hc; omega
            have b3 : (L : Int) + (a : Int) ≤ 4611686018427387904 := by omega
            clear hc hr2
            go_wp2_with (first
              | (go_at_call 129; refine hN.mono ?_; rintro x w2 ⟨rfl, h2⟩; have H2 := hid (hb.out.trans (h2.mono hb.out.size)); have O2 := hid (ho.out.below h2 (Nat.le_refl _)); clear h2; obtain ⟨v3, w3, hcc, g1, g2, g3⟩ := app_int w2 w.heap.size _ l' (L + a) O2.out (by omega) H2.out.size; have G1 := hid g1; have G2 := hid (below_new H2.out O2.out g2); clear g1 g2 g3; rw [Int.natCast_add] at hcc)
              | (at_builtin; go_must (refine Lib.wpList_append_run _ rfl _ _ 22 22 rfl _ _ rfl rfl _ _ hcc ?_)))
            refine ⟨⟨k + 1, L + a + 1, l' ++ [L + a], r2, by omega, by go_num, rfl, by go_num, by omega, by rw [List.length_append]; simp [hl'], by omega, G1, ?_, G2⟩, by simp [intOf]; omega⟩
            show _ = R
            rw [show n - (k + 1) = m from by omega]; exact HR2.out
      · obtain rfl : k = n := by omega
        have hr2 := hr.out
        rw [Nat.sub_self, rdRiseN] at hr2
        subst hr2
        go_wp2
        go_ret3
        exact ⟨⟨_, rfl, ho.out⟩, hb.out⟩
end Go.Proofs.YtmhgdcfmfcjagaaGreatDoor
