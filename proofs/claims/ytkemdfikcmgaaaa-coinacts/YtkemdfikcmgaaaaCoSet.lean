/-
  A set of coins in memory: a map whose keys are points. Nothing here speaks of one function.
-/
import Derived.Test.YtkemdfikcmgaaaaCoCell
import Derived.Test.YtkemdfikcmgaaaaTxMap
import Derived.Maps.RangeWalk
import Derived.Deep.RegionHeld3
import Derived.Deep.Cut
namespace Go.Proofs.Ytkemdfikcmgaaaa
open Go.RowKit Go.Maps Go.WideShapes

theorem outC_inj {a b : TOut} (h : (Value.agg (outC a).toArray) = .agg (outC b).toArray) : a = b := by
  have h1 : outC a = outC b := by simpa using h
  unfold outC at h1
  rw [List.cons.injEq] at h1
  have h2 : a.val = b.val := by simpa using h1.1
  have h3 : a.lock = b.lock := by
    have := h1.2
    unfold vals at this
    exact List.map_inj_right (by intro x y hab; simpa using hab) |>.1 this
  cases a
  cases b
  simp_all
/-- How an output of the map reads: as itself. -/
noncomputable def outElem (v : Value) : Option (DataW TOut × List MemPlace) :=
  @dite _ (∃ o, OutOk o ∧ v = .agg (outC o).toArray) (Classical.propDecidable _) (fun h => some (.held h.choose, [])) (fun _ => none)
theorem outElem_mk {o : TOut} (h : OutOk o) : outElem (.agg (outC o).toArray) = some (.held o, []) := by
  have hx : ∃ o', OutOk o' ∧ (Value.agg (outC o).toArray) = .agg (outC o').toArray := ⟨o, h, rfl⟩
  unfold outElem
  rw [dif_pos hx]
  have := hx.choose_spec.2
  rw [← outC_inj this]
theorem outElem_inv {v : Value} {z : DataW TOut × List MemPlace} (h : outElem v = some z) : ∃ o, OutOk o ∧ v = .agg (outC o).toArray ∧ z = (.held o, []) := by
  unfold outElem at h
  by_cases hx : ∃ o, OutOk o ∧ v = .agg (outC o).toArray
  · rw [dif_pos hx] at h
    exact ⟨hx.choose, hx.choose_spec.1, hx.choose_spec.2, (Option.some.inj h).symm⟩
  · rw [dif_neg hx] at h
    cases h
/-- What a point reads as. -/
noncomputable def klOf (p : Pt) : Lit := (keyOf Try.prog 47 (.agg (pC p).toArray)).getD (.bool true)
theorem key_of {p : Pt} (h : PtOk p) : keyOf Try.prog 47 (.agg (pC p).toArray) = some (klOf p) := by
  obtain ⟨l, hl⟩ := key_pt p.1 p.2 h.1 h.2.1 h.2.2
  show _ = some ((keyOf Try.prog 47 (.agg (ptC p.1 p.2).toArray)).getD (.bool true))
  rw [hl]
  exact hl
theorem kl_same {p q : Pt} (hp : PtOk p) (hq : PtOk q) : (klOf p).sameKey (klOf q) = true ↔ p = q := by
  rw [pt_keys (key_of hp) (key_of hq) hp.1 hq.1]
  exact ⟨fun h => Prod.ext h.1 h.2, fun h => by rw [h]; exact ⟨rfl, rfl⟩⟩
set_option maxRecDepth 100000 in
theorem kl_key {p : Pt} (h : PtOk p) : WideAt.IsKeyLit (klOf p) := pt_law.key (key_of h)
set_option maxRecDepth 100000 in
theorem noOut_ok : OutOk noOut := ⟨by decide, rfl, by unfold AllB Byte noOut; decide⟩
theorem zero_out (w : World) : (zeroValue 50).run Try.prog w = .ok (.agg (outC noOut).toArray) w := by kernel_rfl

noncomputable def ent (c : Cn) : Lit × DataW TOut := (klOf c.pt, .held c.out)
/-- Block m is a map of these coins. -/
def MapAt (w : World) (m : Nat) (C : List Cn) : Prop := ∃ es : List (Lit × DataW TOut), w.ownsMap Try.prog 47 outElem m es.length (.map es) ∧ es.Perm (C.map ent) ∧ (C.map Cn.pt).Nodup ∧ ∀ c ∈ C, CnOk c
theorem MapAt.ok {w : World} {m : Nat} {C : List Cn} (h : MapAt w m C) : (C.map Cn.pt).Nodup ∧ ∀ c ∈ C, CnOk c := by
  obtain ⟨_, _, _, h1, h2⟩ := h
  exact ⟨h1, h2⟩
theorem MapAt.perm {w : World} {m : Nat} {C C' : List Cn} (h : MapAt w m C) (p : C.Perm C') : MapAt w m C' := by
  obtain ⟨es, h1, h2, h3, h4⟩ := h
  exact ⟨es, h1, h2.trans (p.map ent), (p.map Cn.pt).nodup_iff.1 h3, fun c hc => h4 c (p.mem_iff.2 hc)⟩
theorem MapAt.heap {w w' : World} {m : Nat} {C : List Cn} (h : MapAt w m C) (e : w'.heap[m]? = w.heap[m]?) : MapAt w' m C := by
  obtain ⟨es, ⟨a, clock, hb, r⟩, h2⟩ := h
  exact ⟨es, ⟨a, clock, e.trans hb, r⟩, h2⟩
theorem MapAt.lt {w : World} {m : Nat} {C : List Cn} (h : MapAt w m C) : m < w.heap.size := by
  obtain ⟨es, h1, -⟩ := h
  exact h1.lt
theorem owns_tight {w : World} {m n : Nat} {es : List (Lit × DataW TOut)} (h : w.ownsMap Try.prog 47 outElem m n (.map es)) : w.ownsMap Try.prog 47 outElem m es.length (.map es) := by
  obtain ⟨a, clock, hb, F, hs, hD⟩ := h
  refine ⟨a, clock, hb, F, ?_, hD⟩
  cases hD
  rw [length_sorted]
  simp
theorem ent_at {C : List Cn} {es : List (Lit × DataW TOut)} (hp : es.Perm (C.map ent)) {x : Lit × DataW TOut} (hx : x ∈ es) : ∃ c ∈ C, x = ent c := by
  obtain ⟨c, hc, e⟩ := List.mem_map.1 (hp.mem_iff.1 hx)
  exact ⟨c, hc, e.symm⟩
set_option maxRecDepth 100000 in
theorem map_has {C : List Cn} {es : List (Lit × DataW TOut)} (hp : es.Perm (C.map ent)) (hC : ∀ c ∈ C, CnOk c) {p : Pt} (h : PtOk p) : Maps.has (.map es : DataW TOut) (klOf p) = true ↔ p ∈ C.map Cn.pt := by
  rw [Maps.has_eq, List.any_eq_true]
  constructor
  · rintro ⟨x, hx, e⟩
    obtain ⟨c, hc, rfl⟩ := ent_at hp hx
    have := (kl_same (hC c hc).1 h).1 e
    exact this ▸ mem_pt hc
  · intro hm
    obtain ⟨c, hc, rfl⟩ := List.mem_map.1 hm
    exact ⟨ent c, hp.mem_iff.2 (List.mem_map_of_mem hc), (kl_same h h).2 rfl⟩
set_option maxRecDepth 100000 in
theorem map_at {C : List Cn} {es : List (Lit × DataW TOut)} (hp : es.Perm (C.map ent)) (hC : ∀ c ∈ C, CnOk c) (hN : (C.map Cn.pt).Nodup) {c : Cn} (hc : c ∈ C) (z : DataW TOut) : (DataW.map es).atKey (klOf c.pt) z = .held c.out := by
  have hx : ent c ∈ es := hp.mem_iff.2 (List.mem_map_of_mem hc)
  unfold DataW.atKey
  simp only
  cases hf : es.find? (fun p => p.1.sameKey (klOf c.pt)) with
  | none =>
    have := List.find?_eq_none.1 hf _ hx
    exact absurd ((kl_same (hC c hc).1 (hC c hc).1).2 rfl) (by simpa [ent] using this)
  | some x =>
    have h1 := List.find?_some hf
    obtain ⟨d, hd, rfl⟩ := ent_at hp (List.mem_of_find?_eq_some hf)
    have h2 := (kl_same (hC d hd).1 (hC c hc).1).1 h1
    rw [pt_one hN hd hc h2]
    rfl
set_option maxRecDepth 100000 in
/-- 'v, ok := m[p]'. -/
theorem MapAt.look {w : World} {m : Nat} {C : List Cn} (h : MapAt w m C) {p : Pt} (hp : PtOk p) {o : TOut} {r : Bool} (hl : Looks C p o r) :
    (Instr.lookup 65 (.map (some m)) (.agg (pC p).toArray) true).run Try.prog w = .ok (.tuple #[.agg (outC o).toArray, .bool r]) w := by
  obtain ⟨es, hown, hperm, hN, hC⟩ := h
  obtain ⟨v, ps, hrun, hv⟩ := hown.look_ok pt_law Try.underlying65 (zero_out w) (outElem_mk noOut_ok) (key_of hp)
  have hh := map_has hperm hC hp
  have hr : Maps.has (.map es : DataW TOut) (klOf p) = r := by
    rw [Bool.eq_iff_iff, hh]
    exact hl.is.symm
  have hv2 : v = .agg (outC o).toArray := by
    obtain ⟨o', ho', e1, e2⟩ := outElem_inv hv
    simp only [Prod.mk.injEq] at e2
    rcases hl with ⟨h1, c, hc, rfl, rfl⟩ | ⟨h1, h2, rfl⟩
    · rw [map_at hperm hC hN hc] at e2
      have : c.out = o' := by simpa using e2.1
      rw [e1, this]
    · rw [Maps.atKey_of_not_has (by rw [hr, h1])] at e2
      have : noOut = o' := by simpa using e2.1
      rw [e1, this]
  rw [hrun, hr, hv2]
theorem look_none (w : World) {p : Pt} (hp : PtOk p) : (Instr.lookup 65 (.map none) (.agg (pC p).toArray) true).run Try.prog w = .ok (.tuple #[.agg (outC noOut).toArray, .bool false]) w :=
  Maps.look_nil true pt_law Try.underlying65 (zero_out w) (key_of hp)
set_option maxRecDepth 100000 in
/-- 'm[p] = o' of a point that isn't there. -/
theorem MapAt.put {w : World} {m : Nat} {C : List Cn} (h : MapAt w m C) {c : Cn} (hc : CnOk c) (hn : c.pt ∉ C.map Cn.pt) (hl : C.length ≤ 1000000) :
    ∃ w', (Instr.mapUpdate 65 (.map (some m)) (.agg (pC c.pt).toArray) (.agg (outC c.out).toArray)).run Try.prog w = .ok () w' ∧ MapAt w' m (C ++ [c]) ∧ w.grownBy w' (some m) := by
  obtain ⟨es, hown, hperm, hN, hC⟩ := h
  have hlen : es.length = C.length := by rw [hperm.length_eq, List.length_map]
  obtain ⟨w', hrun, hown', hg⟩ := hown.update pt_law Try.underlying65 (by unfold maxLen; omega) (key_of hc.1) (outElem_mk hc.2)
  refine ⟨w', hrun, ?_, hg⟩
  have hno : ∀ x ∈ es, x.1.sameKey (klOf c.pt) = false := by
    intro x hx
    obtain ⟨d, hd, rfl⟩ := ent_at hperm hx
    cases hs : (ent d).1.sameKey (klOf c.pt) with
    | false => rfl
    | true => exact absurd ((kl_same (hC d hd).1 hc.1).1 hs ▸ mem_pt hd) hn
  have hput : (DataW.map es).put (klOf c.pt) (.held c.out) = .map (DataW.insert (ent c) es) := by
    show DataW.map (DataW.insert _ (es.filter _)) = _
    rw [List.filter_eq_self.2 (fun x hx => by rw [hno x hx]; rfl)]
    rfl
  rw [hput] at hown'
  refine ⟨_, owns_tight hown', ?_, ?_, ?_⟩
  · refine (insert_perm _ _).trans ?_
    rw [List.map_append]
    exact (List.Perm.cons _ hperm).trans (List.perm_append_comm (l₁ := [ent c]))
  · rw [List.map_append, List.nodup_append]
    refine ⟨hN, by simp, ?_⟩
    intro a ha b hb e
    rw [List.map_cons, List.map_nil, List.mem_singleton] at hb
    exact hn (hb ▸ e ▸ ha)
  · intro d hd
    rcases List.mem_append.1 hd with q | q
    · exact hC d q
    · rw [List.mem_singleton.1 q]
      exact hc
set_option maxRecDepth 100000 in
/-- 'delete(m, p)'. -/
theorem MapAt.del {w : World} {m : Nat} {C : List Cn} (h : MapAt w m C) {p : Pt} (hp : PtOk p) (ty : TypeId) :
    ∃ w', (Builtin.delete_ #[65, 47] ty #[.map (some m), .agg (pC p).toArray]).run Try.prog w = .ok (.tuple #[]) w' ∧ MapAt w' m (dropPts C [p]) ∧ w.grownBy w' (some m) := by
  obtain ⟨es, hown, hperm, hN, hC⟩ := h
  obtain ⟨w', hrun, hown', ht⟩ := hown.drop pt_law Try.underlying65 (key_of hp) ty
  refine ⟨w', hrun, ⟨_, owns_tight hown', ?_, nodup_drop hN, fun c hc => hC c (List.mem_filter.1 hc).1⟩, ht.grown⟩
  have e : (C.map ent).filter (fun x => !x.1.sameKey (klOf p)) = (dropPts C [p]).map ent := by
    unfold dropPts
    rw [List.filter_map]
    congr 1
    refine List.filter_congr fun c hc => ?_
    show (!(klOf c.pt).sameKey (klOf p)) = _
    congr 1
    rw [Bool.eq_iff_iff, kl_same (hC c hc).1 hp]
    simp
  rw [← e]
  exact hperm.filter _
theorem MapAt.size {w : World} {m : Nat} {C : List Cn} (h : MapAt w m C) (ty : TypeId) : (Builtin.len_ #[65] ty #[.map (some m)]).run Try.prog w = .ok (.int .i64 C.length) w := by
  obtain ⟨es, hown, hperm, -⟩ := h
  rw [hown.len Try.underlying65 ty, Maps.size_eq, hperm.length_eq, List.length_map]
theorem MapAt.made (w : World) : MapAt (w.alloc (.map #[] 0)) w.heap.size [] := ⟨[], World.ownsMap_made _ _ _ _, .refl _, List.Pairwise.nil, fun _ h => by cases h⟩

/-- A look-up, taken first in a region that draws its order. -/
theorem yields_look {P : Program} {ops : Array Oper} {S : World → Prop} {op : Oper} {a : Act} (hw : Region.wanted op (yielded ops a.tmps) = true) (t : TypeId) (m x : Operand) (ho : op.op = .lookup t m x true) (mv kv v : Value) (hm : a.eval m = mv) (hx : a.eval x = kv)
    (hS : ∀ w, S w → (Instr.lookup t mv kv true).run P w = .ok v w) : YieldsIf P ops S op v a :=
  .inl ⟨hw, fun w hw' => by
    unfold execOp
    simp [ho, hm, hx, hS w hw', Result.andThen]⟩
/-- Steps of a region that draws its order: a row is stored, an entry is, one is deleted. -/
theorem step_store_row {P : Program} {ops : Array Oper} {o : Oper} {a : Act} {w : World} {K : Act → World → Prop} {Q : Exit → Act → World → Prop} {E : Prop} (hg : o.guard = none) (ty : TypeId) (x y : Operand) (hop : o.op = .store ty x y)
    (b n : Nat) (vs : List Value) (hx : a.eval x = .pointer (some ⟨b, n, none⟩)) (hy : a.eval y = .agg vs.toArray) (ht : w.there b n vs.length) (hi : (P.info? ty).map (·.size) = some vs.length) (h1 : ∀ v ∈ vs, v.oneCell' = true)
    (hK : K (a.put o.dst undef) (w.setCells b n vs)) : if Region.wanted o (yielded ops a.tmps) = true then Oper.wp P o a w K Q else E := by
  have hw : Region.wanted o (yielded ops a.tmps) = true := by simp [Region.wanted, hg]
  rw [if_pos hw]
  exact wp_store_mid ty x y hop b n vs.toArray hx hy (by simpa using ht) (by rw [hi]; simp) (all_oneCell_toArray h1) (by simpa using hK)
theorem step_update {P : Program} {ops : Array Oper} {o : Oper} {a : Act} {w w' : World} {K : Act → World → Prop} {Q : Exit → Act → World → Prop} {E : Prop} (hg : o.guard = none) (t : TypeId) (m x y : Operand) (hop : o.op = .mapUpdate t m x y)
    {mv xv yv : Value} (hm : a.eval m = mv) (hx : a.eval x = xv) (hy : a.eval y = yv) (hrun : (Instr.mapUpdate t mv xv yv).run P w = .ok () w')
    (hK : K (a.put o.dst undef) w') : if Region.wanted o (yielded ops a.tmps) = true then Oper.wp P o a w K Q else E := by
  have hw : Region.wanted o (yielded ops a.tmps) = true := by simp [Region.wanted, hg]
  rw [if_pos hw]
  unfold Oper.wp
  simp [execOp, hop, hm, hx, hy, hrun, Result.andThen]
  exact hK
theorem step_delete {P : Program} {ops : Array Oper} {o : Oper} {a : Act} {w w' : World} {K : Act → World → Prop} {Q : Exit → Act → World → Prop} {E : Prop} (hg : o.guard = none) (t k : TypeId) (m x : Operand) (hop : o.op = Op.call { callee := Callee.builtin Builtin.delete, args := #[m, x], argTypes := #[t, k] })
    {mv xv : Value} (hm : a.eval m = mv) (hx : a.eval x = xv) (hrun : (Builtin.delete_ #[t, k] o.type #[mv, xv]).run P w = .ok (.tuple #[]) w')
    (hK : K (a.put o.dst (.tuple #[])) w') : if Region.wanted o (yielded ops a.tmps) = true then Oper.wp P o a w K Q else E := by
  have hw : Region.wanted o (yielded ops a.tmps) = true := by simp [Region.wanted, hg]
  rw [if_pos hw]
  unfold Oper.wp
  simp [execOp, hop, resolve, invoke, builtin, hm, hx, hrun, Result.andThen]
  exact hK
/-- 'len', by its run. -/
theorem wp_len {P : Program} {ops : Array Oper} {rest : List Oper} {o : Oper} {a : Act} {w : World} {Q : Exit → Act → World → Prop} (hg : o.guard = none) (m : Operand) (t : TypeId) (hop : o.op = Op.call { callee := Callee.builtin Builtin.len, args := #[m], argTypes := #[t] })
    {mv v : Value} (hm : a.eval m = mv) (hrun : (Builtin.len_ #[t] o.type #[mv]).run P w = .ok v w) (h : wpList P ops Q rest (a.put o.dst v) w) : wpList P ops Q (o :: rest) a w := by
  refine wpList_plain hg fun K hK => ?_
  unfold Oper.wp
  simp [execOp, hop, resolve, invoke, builtin, hm, hrun, Result.andThen]
  exact hK _ _ h
/-- A set: its block, its map's, its coins. -/
def SetAt (w : World) (b : Nat) (m : Option Nat) (C : List Cn) : Prop :=
  w.cell? ⟨b, 0, none⟩ = some (.map m) ∧ w.frozen? ⟨b, 0, none⟩ = false ∧ (m = none → C = []) ∧ ∀ k, m = some k → k ≠ b ∧ MapAt w k C
theorem SetAt.lt {w : World} {b : Nat} {m : Option Nat} {C : List Cn} (h : SetAt w b m C) : b < w.heap.size := World.block_lt_of_cell? _ _ h.1
theorem SetAt.heap {w w' : World} {b : Nat} {m : Option Nat} {C : List Cn} (h : SetAt w b m C) (eb : w'.heap[b]? = w.heap[b]?) (em : ∀ k, m = some k → w'.heap[k]? = w.heap[k]?) : SetAt w' b m C := by
  obtain ⟨h1, h2, h3, h4⟩ := h
  exact ⟨(World.cell?_of_block (w := w) (a := ⟨b, 0, none⟩) eb).trans h1, (World.frozen?_of_block (w := w) (a := ⟨b, 0, none⟩) eb).trans h2, h3, fun k hk => ⟨(h4 k hk).1, (h4 k hk).2.heap (em k hk)⟩⟩
theorem SetAt.on {w w' : World} {b : Nat} {m : Option Nat} {C : List Cn} (h : SetAt w b m C) (hb : Below w.heap.size w w') : SetAt w' b m C :=
  h.heap (hb.block b h.lt) fun k hk => hb.block k (h.2.2.2 k hk).2.lt
theorem SetAt.perm {w : World} {b : Nat} {m : Option Nat} {C C' : List Cn} (h : SetAt w b m C) (p : C.Perm C') : SetAt w b m C' := by
  obtain ⟨h1, h2, h3, h4⟩ := h
  exact ⟨h1, h2, fun e => by rw [h3 e] at p; exact (List.nil_perm.1 p), fun k hk => ⟨(h4 k hk).1, (h4 k hk).2.perm p⟩⟩
theorem SetAt.ok {w : World} {b : Nat} {m : Option Nat} {C : List Cn} (h : SetAt w b m C) : (C.map Cn.pt).Nodup ∧ ∀ c ∈ C, CnOk c := by
  obtain ⟨-, -, h3, h4⟩ := h
  cases m with
  | none =>
    rw [h3 rfl]
    exact ⟨List.Pairwise.nil, fun _ h => by cases h⟩
  | some k => exact (h4 k rfl).2.ok
theorem SetAt.look {w : World} {b : Nat} {m : Option Nat} {C : List Cn} (h : SetAt w b m C) {p : Pt} (hp : PtOk p) {o : TOut} {r : Bool} (hl : Looks C p o r) :
    (Instr.lookup 65 (.map m) (.agg (pC p).toArray) true).run Try.prog w = .ok (.tuple #[.agg (outC o).toArray, .bool r]) w := by
  cases m with
  | none =>
    rw [h.2.2.1 rfl] at hl
    rcases hl with ⟨-, c, hc, -⟩ | ⟨rfl, -, rfl⟩
    · cases hc
    · exact look_none w hp
  | some k => exact (h.2.2.2 k rfl).2.look hp hl
theorem crun_equalIn_map {P : Program} (w : World) (d : Nat) (t k e : TypeId) (p : Option Nat) (h : P.underlying t = some (.map k e)) : (Op.equalIn (d + 1) t (.map p) (.map none)).run P w = .ok p.isNone w := by
  cases p <;> simp [Op.equalIn, run_underlying h]
/-- A map held against nil. -/
theorem crun_eql_map {P : Program} (w : World) (t k e : TypeId) (p : Option Nat) (h : P.underlying t = some (.map k e)) : (binOp .eql t (.map p) (.map none)).run P w = .ok (.bool p.isNone) w := by
  simp only [binOp]
  simp [show Op.equal t (.map p) (.map none) = Op.equalIn (9999 + 1) t (.map p) (.map none) from rfl, crun_equalIn_map w 9999 t k e p h]
theorem alloc_block {w : World} (o : Obj) {g : Nat} (h : g < w.heap.size) : (w.alloc o).heap[g]? = w.heap[g]? := (below_new w o).block g h
/-- A map is made, and laid into the set. -/
theorem set_made {w : World} {b : Nat} (h : SetAt w b none []) : SetAt ((w.alloc (.map #[] 0)).setCell ⟨b, 0, none⟩ (.map (some w.heap.size))) b (some w.heap.size) [] := by
  have hlt := h.lt
  have h1 := h.on (below_new w (.map #[] 0))
  have hne : w.heap.size ≠ b := by omega
  refine ⟨World.cell?_setCell_same _ _ _ h1.1, by rw [World.frozen?_setCell]; exact h1.2.1, fun e => (by cases e), fun k hk => ?_⟩
  cases hk
  exact ⟨hne, (MapAt.made w).heap (Below.heap_setCell _ _ _ _ hne)⟩

end Go.Proofs.Ytkemdfikcmgaaaa
