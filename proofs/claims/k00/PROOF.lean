import PyProof.Rows.All
import Wide.All
import OpenK.AllK
import Wide.FinOn
import PySem.Challenge.RW_wheelmarks_k00_mills_begins_and_settings
import HandS.Style
import HandS.TupMul
import HandS.TupAny
import HandS.List
import HandS.ForMost
import HandS.ForExc
import HandS.Deep
import HandS.IsInst
import HandS.Steps
import KE.SortData
import HandS.Star
import HandS.Flow
import HandS.Zip
import HandS.NoneIn
import HandS.DictComp
import KE.GoesNew
import HandS.Small
import HandS.Exc
import HandS.WordsExc
import HandS.TryMany
import HandS.ExcField
import HandS.ExcIs
import KE.KExcIs
import HandS.Words
import KE.KExcInit
import HandS.EndBits
set_option Elab.async false
set_option linter.all false
set_option maxRecDepth 100000
set_option maxHeartbeats 4000000
/-! DpV: a tuple turned, xs[::-1]; the empty tuple times a number. -/
namespace Dp
open PySem PySem.Spec PyProof.Rows L2 HT
section
variable {prog : Program} {w : World} {A : Around} {E : Value → Shared → Prop} {s : Shared}
theorem applied_rev {sl : Addr} {vl vu vs : Value} {n : Nat} {Q : Int × Int × Nat → Shared → Prop} (hs : s.heap.IsSliceOf sl vl vu vs) (pl : IsPart vl none) (pu : IsPart vu none) (ps : IsPart vs (some (-1)))
    (h : Q ((n : Int) - 1, -1, n) s) : wpAny (model prog w) A (Builtin.Slice.sliceApplied (.ref sl) (pure (n : Int))) Q E s := by
  obtain ⟨os, hos, hcs, hds⟩ := id hs
  unfold Builtin.Slice.sliceApplied Builtin.Slice.sliceFields
  refine wpAny_bind (wpAny_bind (wpAny_field hos hds (x := vl) rfl (wpAny_bind (wpAny_field hos hds (x := vu) rfl (wpAny_bind (wpAny_field hos hds (x := vs) rfl (wpAny_pure ?_)))))))
  refine wpAny_bind (slicePart_ ps ?_)
  show wpAny _ _ (if ((-1 : Int) == 0) = true then _ else _) _ _ s
  rw [if_neg (by decide)]
  refine wpAny_bind (slicePart_ pl (wpAny_bind (slicePart_ pu (wpAny_bind (wpAny_pure ?_)))))
  have e : Builtin.Slice.sliceAdjust none none (-1) (n : Int) = ((n : Int) - 1, -1) := by
    unfold Builtin.Slice.sliceAdjust
    simp
  have e2 : Builtin.Slice.slicePlaces ((n : Int) - 1) (-1) (-1) = n := by
    unfold Builtin.Slice.slicePlaces
    simp
    try omega
  show wpAny _ _ (match Builtin.Slice.sliceAdjust none none (-1) (n : Int) with | (lo, hi) => pure (lo, (-1 : Int), Builtin.Slice.slicePlaces lo hi (-1))) _ _ s
  rw [e]
  show wpAny _ _ (pure ((n : Int) - 1, (-1 : Int), Builtin.Slice.slicePlaces ((n : Int) - 1) (-1) (-1))) _ _ s
  rw [e2]
  exact wpAny_pure h
theorem pick_rev (xs : Array Value) : ((List.range xs.size).filterMap fun (m : Nat) => xs[(((xs.size : Nat) : Int) - 1 + (m : Int) * (-1)).toNat]?).toArray = xs.toList.reverse.toArray := by
  congr 1
  have e : (fun (m : Nat) => xs[(((xs.size : Nat) : Int) - 1 + (m : Int) * (-1)).toNat]?) = fun m => xs[xs.size - 1 - m]? := by
    funext m
    have : (((xs.size : Nat) : Int) - 1 + (m : Int) * (-1)).toNat = xs.size - 1 - m := by omega
    rw [this]
  rw [e]
  have key : ∀ (l : List Value), (List.range l.length).filterMap (fun m => l[l.length - 1 - m]?) = l.reverse := fun l => by
    have gen : ∀ ms : List Nat, (∀ m ∈ ms, m < l.length) → ms.filterMap (fun m => l[l.length - 1 - m]?) = ms.map (fun m => l.reverse.getD m default) := fun ms => by
      induction ms with
      | nil => intro _; rfl
      | cons m ms ih =>
        intro hm
        have hlt : m < l.length := hm m List.mem_cons_self
        have e0 : l[l.length - 1 - m]? = some (l.reverse.getD m default) := by
          rw [← List.getElem?_reverse hlt, List.getD_eq_getElem?_getD, List.getElem?_eq_getElem (by rw [List.length_reverse]; exact hlt)]
          rfl
        rw [List.filterMap_cons, e0, List.map_cons, ih fun k hk => hm k (List.mem_cons_of_mem _ hk)]
    have e1 := gen (List.range l.length) fun m hm => List.mem_range.mp hm
    rw [e1]
    apply List.ext_getElem?
    intro m
    rw [List.getElem?_map]
    by_cases hm : m < l.length
    · rw [List.getElem?_range hm]
      show some (l.reverse.getD m default) = _
      rw [List.getD_eq_getElem?_getD, List.getElem?_eq_getElem (by rw [List.length_reverse]; exact hm)]
      rfl
    · rw [List.getElem?_eq_none (by rw [List.length_range]; omega), List.getElem?_eq_none (by rw [List.length_reverse]; omega)]
      rfl
  have := key xs.toList
  simpa using this
theorem getItem_tuple_rev {t sl : Addr} {items : Array Value} {vl vu vs : Value} {Q : Value → Shared → Prop} (ht : IsTup s.heap t items) (hs : s.heap.IsSliceOf sl vl vu vs) (pl : IsPart vl none) (pu : IsPart vu none) (ps : IsPart vs (some (-1)))
    (h : Q (.ref s.heap.objs.size) { s with heap := s.heap.push { cls := .type "tuple", data := .seq items.toList.reverse.toArray } })
    (hsz : items.size ≤ sizeLine) : wpAny (model prog w) A (getItem (.ref t) (.ref sl)) Q E s := by
  have htake : sizeOk (.seq items.toList.reverse.toArray) := by
    show items.toList.reverse.toArray.size ≤ sizeLine
    rw [List.size_toArray, List.length_reverse, Array.length_toList]
    exact hsz
  obtain ⟨os, hos, hcs, hds⟩ := id hs
  have hTs : s.TypeIs (.ref sl) "slice" := ⟨os, hos, hcs⟩
  unfold getItem
  try with_reducible refine wpAny_holding ?_
  first | refine wpAny_bind (wpAny_pure ?_) | skip
  refine wpAny_bind (wpAny_sequenceKey ht.typeIs (by decide) ?_)
  refine wpAny_bind (wpAny_callSpecial?_slot (name := Str.ofString "__getitem__") ht.typeIs PyProof.Rows.slot_tuple_getitem
    (wpAny_call_entry PyProof.Rows.slot_tuple_getitem ht.typeIs entry_tuple_getitem ?_ (args_tuple_getitem _ _)))
  show wpAny _ _ (Builtin.Tuple.tupleItemsOf (.ref t) >>= _) _ _ s
  refine wpAny_bind (tupleItemsOf_ ht ?_)
  refine wpAny_bind (wpAny_typeOf hTs ?_)
  rw [if_pos (by decide)]
  refine wpAny_bind (applied_rev hs pl pu ps ?_)
  have hno : ¬ (((((items.size : Nat) : Int) - 1) == 0 && (-1 : Int) == 1 && items.size == items.size) = true) := by
    rw [show ((-1 : Int) == 1) = false from rfl, Bool.and_false, Bool.false_and]
    exact Bool.false_ne_true
  show wpAny _ _ (if ((((items.size : Nat) : Int) - 1) == 0 && (-1 : Int) == 1 && items.size == items.size) = true then _ else _) _ _ s
  rw [if_neg hno, pick_rev]
  first
    | exact wpAny_bind (m := Builtin.Tuple.tupleExact _) (wpAny_newObj_type (wpAny_pure ⟨_, rfl, wpAny_pure h⟩) htake)
    | exact wpAny_bind (m := Builtin.Tuple.tupleExact _) (wpAny_newObj_type (wpAny_bind (wpAny_pure (wpAny_pure ⟨_, rfl, wpAny_pure h⟩))) htake)
    | exact wpAny_bind (wpAny_bind (m := Builtin.Tuple.tupleExact _) (wpAny_newObj_type (wpAny_pure (wpAny_pure ⟨_, rfl, wpAny_pure h⟩)) htake))
    | exact wpAny_bind (wpAny_bind (m := Builtin.Tuple.tupleExact _) (wpAny_newObj_type (wpAny_pure ⟨_, rfl, wpAny_pure h⟩) htake))
end
section
variable {X : Cx}
/-- xs[::-1] of a list or of a tuple -/
def tRevA (K : PySem.W.Frag) (te : TE) : TE := fun σ H Q => te σ H fun x H1 => ∃ a xs, x = .ref a ∧ ((SqL K H1 a xs ∧ ∀ p, H1 p = none → Q (.ref p) (upd H1 p (.lst xs.reverse))) ∨ (SqT K H1 a xs ∧ ∀ p, H1 p = none → Q (.ref p) (upd H1 p (.tup xs.reverse))))
theorem pe_revA {e : Expr} {te : TE} {k : Nat} {p1 p2 p3 pos : Pos} (he : PE X e te) : PE X (.Subscript e (.Slice none none (some (.UnaryOp .USub (.Constant (.int 1) k p1) p2)) p3) pos) (tRevA X.K te) := by
  refine ⟨fun pins s σ H Q I h => ?_⟩
  refine Subscript_ (thn (he.run pins s σ H _ I h) fun v s1 ⟨x, H1, I1, r1, q1⟩ => ?_)
  obtain ⟨a, xs, ex, q⟩ := q1
  subst ex
  cases r1
  have hst : PO X (some (.UnaryOp .USub (.Constant (.int 1) k p1) p2)) (tPart (tUn (rU fun i => .int (-i)) (tC (.int 1)))) := po_some (pe_un un_neg pe_int)
  refine wpAny_Slice (thn (po_none.run pins s1 σ H1 (fun o H2 => o = none ∧ H2 = H1) I1 ⟨rfl, rfl⟩) fun vl s2 ⟨l, H2, I2, pl, el, e2⟩ => ?_)
  subst el e2
  refine thn (po_none.run pins s2 σ H2 (fun o H3 => o = none ∧ H3 = H2) I2 ⟨rfl, rfl⟩) fun vu s3 ⟨u, H3, I3, pu, eu, e3⟩ => ?_
  subst eu e3
  refine thn (hst.run pins s3 σ H3 (fun o H4 => o = some (-1) ∧ H4 = H3) I3 ⟨1, rfl, -1, rfl, rfl, rfl⟩) fun vs s4 ⟨o, H4, I4, ps, eo, e4⟩ => ?_
  subst eo e4
  have I5 : Inv X pins σ H4 { s4 with heap := s4.heap.push { cls := .type "slice", data := .fields #[vl, vu, vs] } } := I4.kept (t' := s4.toks) fun b ob q => Heap.get?_push_of_some _ q
  show wpAny (model X.prog X.w) X.A (subscriptTail e (.Slice none none (some (.UnaryOp .USub (.Constant (.int 1) k p1) p2)) p3) (.ref a) (.ref s4.heap.objs.size)) (EP X pins σ Q) X.xe { s4 with heap := s4.heap.push { cls := .type "slice", data := .fields #[vl, vu, vs] } }
  rcases q with ⟨hx, q⟩ | ⟨hx, q⟩
  · obtain ⟨its, r, ht, hz⟩ := I5.list hx
    have hlen := r.length
    refine tail_any (ops := [.ref a, .ref s4.heap.objs.size]) ht.isList.typeIs (PySem.slot_list_getitem.lookup) ?_ (by with_unfolding_all rfl)
    refine wpAny_getItem_list_slice ht.isList (Heap.IsSliceOf.new _ vl vu vs) pl pu ps (by decide) ?_ (by rw [List.size_toArray]; omega)
    rw [PySem.W.krv_pick]
    refine ⟨.ref _, _, I5.laid (t' := s4.toks) (o := .lst xs.reverse) (fun b ob q => Heap.get?_push_of_some _ q) (Nat.le_refl _) ?_, rfl, q _ (I5.hok.fresh (Nat.le_refl _))⟩
    exact ⟨by rw [List.length_reverse]; exact hz, _, 0, r.reverse, Heap.get?_push_size _ rfl⟩
  · obtain ⟨its, r, ht, hz⟩ := I5.tuple hx
    have hlen := r.length
    refine tail_any (ops := [.ref a, .ref s4.heap.objs.size]) ht.typeIs (PyProof.Rows.slot_tuple_getitem.lookup) ?_ (by with_unfolding_all rfl)
    refine getItem_tuple_rev ht (Heap.IsSliceOf.new _ vl vu vs) pl pu ps ?_ (by rw [List.size_toArray]; omega)
    refine ⟨.ref _, _, I5.laid (t' := s4.toks) (o := .tup xs.reverse) (fun b ob q => Heap.get?_push_of_some _ q) (Nat.le_refl _) ?_, rfl, q _ (I5.hok.fresh (Nat.le_refl _))⟩
    exact ⟨by rw [List.length_reverse]; exact hz, _, r.reverse, IsTup.new _ _⟩
end
end Dp
namespace Dp
open PySem PySem.Spec PyProof.Rows L2
theorem tuple_mul1 (l : Addr) (items : Array Value) (n : Nat) (dd : Option Addr) (sl : Array (Option Value)) (x : Int) (u : Tok) (c0 : (decide (x < -(2 ^ 63)) || decide (x ≥ 2 ^ 63)) = false) (c1 : (items.isEmpty || x == 1) = true) :
    Meets (Builtin.«tuple.__mul__» ⟨[.ref l, .int x u], []⟩) (fun _ R s => s.heap.get? l = some { cls := .type "tuple", dict := dd, data := .seq items n, slots := sl } ∧ R (.ok (.ret (.ref l))) s) :=
  .of_wp fun prog w A R s h => by
    obtain ⟨hp, g, d, tk, os⟩ := s
    obtain ⟨hl, h⟩ := h
    have f1 := AutoSeq1.idx_int
    wp_walk using wpAny_loadPart' hl
    repeat (first
      | (refine wpAny_ite_false (decide_eq_false (by rw [c0]; exact Bool.false_ne_true)) ?_; wp_walk using wpAny_loadPart' hl)
      | (refine wpAny_ite_true (decide_eq_true c1) ?_; wp_walk using wpAny_loadPart' hl))
    exact ⟨_, rfl, h⟩
def rRep1 (K : PySem.W.Frag) : R2 := fun x y H Q => ∃ l k xs, x = .ref l ∧ y = .int k ∧ SqT K H l xs ∧ (xs = [] ∨ k = 1) ∧ 0 ≤ k ∧ k ≤ 1000 ∧ Q x H
theorem op_rep1 {X : Cx} : OpR X (binaryOp .Mult) (rRep1 X.K) := by
  intro pins s σ H x y v u Q I rx ry h
  obtain ⟨l, k, xs, rfl, rfl, hT, hne, h1, h2, q⟩ := h
  cases rx
  obtain ⟨t, rfl⟩ := ry
  obtain ⟨its, r, ⟨⟨cls, dd, data, sl⟩, ho, hc, n, hd⟩, hs⟩ := I.tuple hT
  simp only at hc hd
  subst hc hd
  have hle : its.length = xs.length := r.length.symm
  have c1 : (its.toArray.isEmpty || k == 1) = true := by
    rcases hne with e | e
    · subst e
      have : its = [] := List.eq_nil_of_length_eq_zero hle
      subst this
      rfl
    · subst e
      simp
  have c0 : (decide (k < -(2 ^ 63)) || decide (k ≥ 2 ^ 63)) = false := by
    rw [decide_eq_false (by omega), decide_eq_false (by omega)] <;> rfl
  refine wpAny_binaryOp_repeat_ref (T := "tuple") (U := "int") (by decide) ⟨_, ho, rfl⟩ (fun s' => typeIs_int s' k t) noFill_tuple_mul F.fills_int_mul F.slot_int_rmul repeat_tuple F.slot_int_index.lookup
    (call_meets F.slot_int_rmul (typeIs_int s k t) F.entry_int_rmul (F.args_int_rmul_2 _ _) (int_rmul_tuple k t l its.toArray n dd sl)
      ⟨ho, rfl, ⟨_, ho, rfl⟩, call_meets F.slot_tuple_mul ⟨_, ho, rfl⟩ F.entry_tuple_mul (F.args_tuple_mul_2 _ _) (tuple_mul1 l its.toArray n dd sl k t c0 c1) ⟨ho, ?_⟩⟩)
  exact ⟨.ref l, H, I, rfl, q⟩
end Dp
set_option Elab.async false
set_option linter.all false
set_option maxRecDepth 100000
set_option maxHeartbeats 4000000
/-! Dp0: data, stores, what represents them; canonical readings of evaluations. -/
namespace Dp
open PySem PySem.Spec PyProof.Rows L2

inductive Ty where
  | none | bool | int | str | tuple | list | dict
  deriving DecidableEq
def Ty.name : Ty → String
  | .none => "NoneType" | .bool => "bool" | .int => "int" | .str => "str" | .tuple => "tuple" | .list => "list" | .dict => "dict"
/-- data: lists and dicts by their place in the store -/
inductive D where
  | non | bl (b : Bool) | int (i : Int) | str (s : Str) | ty (n : Ty) | tup (xs : List D) | ref (n : Nat) | fn (x : Str) | rl (xs : List D)

inductive Cell where
  | lst (xs : List D) | frz (xs : List D) | dct (kvs : List (Key × D))
def Cell.wr : Cell → Prop
  | .frz _ => False
  | _ => True
/-- the cells, the newest first -/
structure Store where
  length : Nat
  cs : List Cell
def nthC : List Cell → Nat → Option Cell
  | [], _ => none
  | c :: _, 0 => some c
  | _ :: cs, n + 1 => nthC cs n
def setC : List Cell → Nat → Cell → List Cell
  | [], _, _ => []
  | _ :: cs, 0, d => d :: cs
  | c :: cs, n + 1, d => c :: setC cs n d
def Store.get (st : Store) (n : Nat) : Option Cell := match Nat.ble st.length n with
  | true => none
  | false => nthC st.cs (st.length - (n + 1))
def Store.push (st : Store) (c : Cell) : Store := ⟨st.length + 1, c :: st.cs⟩
def Store.set (st : Store) (n : Nat) (c : Cell) : Store := ⟨st.length, setC st.cs (st.length - (n + 1)) c⟩
instance : GetElem? Store Nat Cell (fun st n => (st.get n).isSome = true) where
  getElem st n h := (st.get n).get h
  getElem? st n := st.get n
theorem nthC_lt : ∀ {cs : List Cell} {n : Nat}, n < cs.length → ∃ c, nthC cs n = some c
  | [], _, h => absurd h (Nat.not_lt_zero _)
  | c :: _, 0, _ => ⟨c, rfl⟩
  | _ :: cs, n + 1, h => nthC_lt (cs := cs) (Nat.lt_of_succ_lt_succ h)
theorem setC_len : ∀ {cs : List Cell} {n : Nat} {d : Cell}, (setC cs n d).length = cs.length
  | [], _, _ => rfl
  | _ :: _, 0, _ => rfl
  | _ :: cs, n + 1, d => congrArg Nat.succ (setC_len (cs := cs) (n := n) (d := d))
theorem nthC_set : ∀ {cs : List Cell} {n : Nat} {d : Cell}, n < cs.length → nthC (setC cs n d) n = some d
  | [], _, _, h => absurd h (Nat.not_lt_zero _)
  | _ :: _, 0, _, _ => rfl
  | _ :: cs, n + 1, d, h => nthC_set (cs := cs) (Nat.lt_of_succ_lt_succ h)
theorem nthC_ne : ∀ {cs : List Cell} {n m : Nat} {d : Cell}, n ≠ m → nthC (setC cs n d) m = nthC cs m
  | [], _, _, _, _ => rfl
  | _ :: _, 0, 0, _, h => absurd rfl h
  | _ :: _, 0, _ + 1, _, _ => rfl
  | _ :: _, _ + 1, 0, _, _ => rfl
  | _ :: cs, n + 1, m + 1, d, h => nthC_ne (cs := cs) (fun e => h (congrArg Nat.succ e))
section
variable {st : Store} {n m : Nat} {c d : Cell}
theorem st_lt (h : st[n]? = some c) : n < st.length := by
  have h' : st.get n = some c := h
  unfold Store.get at h'
  split at h'
  · cases h'
  · rename_i e
    exact Nat.lt_of_not_le fun z => by rw [Nat.ble_eq_true_of_le z] at e; cases e
theorem st_eq (h : n < st.length) : st[n]? = nthC st.cs (st.length - (n + 1)) := by
  show st.get n = _
  unfold Store.get
  have : Nat.ble st.length n = false := by
    cases e : Nat.ble st.length n with
    | false => rfl
    | true => exact absurd (Nat.le_of_ble_eq_true e) (Nat.not_le_of_lt h)
  rw [this]
theorem st_some (wf : st.cs.length = st.length) (h : n < st.length) : ∃ c, st[n]? = some c := by
  rw [st_eq h]
  exact nthC_lt (by rw [wf]; omega)
theorem st_push_lt (h : n < st.length) : (st.push c)[n]? = st[n]? := by
  rw [st_eq h, st_eq (show n < (st.push c).length from Nat.lt_succ_of_lt h)]
  show nthC (c :: st.cs) (st.length + 1 - (n + 1)) = _
  have e : st.length + 1 - (n + 1) = (st.length - (n + 1)) + 1 := by omega
  rw [e]
  rfl
theorem st_push_eq : (st.push c)[st.length]? = some c := by
  rw [st_eq (show st.length < (st.push c).length from Nat.lt_succ_self _)]
  show nthC (c :: st.cs) (st.length + 1 - (st.length + 1)) = _
  rw [Nat.sub_self]
  rfl
theorem st_set_self (wf : st.cs.length = st.length) (h : n < st.length) : (st.set n c)[n]? = some c := by
  rw [st_eq (show n < (st.set n c).length from h)]
  exact nthC_set (by rw [wf]; show st.length - (n + 1) < _; omega)
theorem st_set_ne (h : n ≠ m) (hn : n < st.length) : (st.set n c)[m]? = st[m]? := by
  by_cases hm : m < st.length
  · rw [st_eq hm, st_eq (show m < (st.set n c).length from hm)]
    exact nthC_ne (show st.length - (n + 1) ≠ st.length - (m + 1) by omega)
  · have key : ∀ s : Store, s.length = st.length → s[m]? = none := fun s e => by
      cases z : s[m]? with
      | none => rfl
      | some c => exact absurd (e ▸ st_lt z) hm
    rw [key st rfl, key (st.set n c) rfl]
end
abbrev Slt := List (Option D)

inductive Out (α : Type) where
  | ok (a : α) (st : Store) | exn (c : Str) (fs : List (Str × D)) (st : Store) | bad

def Out.bind {α β : Type} (o : Out α) (k : α → Store → Out β) : Out β :=
  match o with
  | .ok a st => k a st
  | .exn c fs st => .exn c fs st
  | .bad => .bad

/-- what is fixed: the written part, the module's names -/
structure Wd where
  K : PySem.W.Frag
  mg : Str → Option Value

/-- a list that is only read: frozen, or of the written part -/
def SqR (K : PySem.W.Frag) (H : Hp) (a : Addr) (xs : List V) : Prop :=
  (∃ o, H a = some (.frz o (.lst xs))) ∨ ∃ (o : Obj) (its : Array Value) (n : Nat), K.lookup a = some o ∧ o.cls = .type "list" ∧ o.dict = none ∧ o.data = .seq its n ∧ its.size ≤ sizeLine ∧ Vals xs its.toList
theorem SqR.sql {K : PySem.W.Frag} {H : Hp} {a : Addr} {xs : List V} (h : SqR K H a xs) : SqL K H a xs := h.elim (fun ⟨o, e⟩ => .inl (.inr ⟨o, e⟩)) .inr
mutual
def Rep (W : Wd) (ρ : List Addr) (H : Hp) : D → V → Prop
  | .non, v => v = .non
  | .bl b, v => v = .bl b
  | .int i, v => v = .int i
  | .str s, v => v = .str s
  | .ty n, v => v = .ty n.name
  | .tup ds, v => ∃ a vs, v = .ref a ∧ SqT W.K H a vs ∧ Reps W ρ H ds vs
  | .ref n, v => ∃ a, v = .ref a ∧ ρ[n]? = some a
  | .fn x, v => ∃ f, v = .ref f ∧ W.mg x = some (.ref f)
  | .rl ds, v => ∃ a vs, v = .ref a ∧ SqR W.K H a vs ∧ Reps W ρ H ds vs
def Reps (W : Wd) (ρ : List Addr) (H : Hp) : List D → List V → Prop
  | [], vs => vs = []
  | d :: ds, vs => ∃ v r, vs = v :: r ∧ Rep W ρ H d v ∧ Reps W ρ H ds r
end

/-- more is known, nothing that was is lost -/
structure Ext (W : Wd) (ρ : List Addr) (H : Hp) (ρ' : List Addr) (H' : Hp) : Prop where
  pre : ∀ (n : Nat) a, ρ[n]? = some a → ρ'[n]? = some a
  tup : ∀ a xs, SqT W.K H a xs → SqT W.K H' a xs
  rl : ∀ a xs, SqR W.K H a xs → SqR W.K H' a xs
theorem Ext.refl {W : Wd} {ρ : List Addr} {H : Hp} : Ext W ρ H ρ H := ⟨fun _ _ h => h, fun _ _ h => h, fun _ _ h => h⟩
theorem Ext.trans {W : Wd} {ρ ρ1 ρ2 : List Addr} {H H1 H2 : Hp} (a : Ext W ρ H ρ1 H1) (b : Ext W ρ1 H1 ρ2 H2) : Ext W ρ H ρ2 H2 :=
  ⟨fun n x h => b.pre n x (a.pre n x h), fun x y h => b.tup x y (a.tup x y h), fun x y h => b.rl x y (a.rl x y h)⟩

mutual
theorem Rep.mono {W : Wd} {ρ ρ' : List Addr} {H H' : Hp} (e : Ext W ρ H ρ' H') : ∀ (d : D) (v : V), Rep W ρ H d v → Rep W ρ' H' d v
  | .non, _, h => h
  | .bl _, _, h => h
  | .int _, _, h => h
  | .str _, _, h => h
  | .ty _, _, h => h
  | .tup ds, v, h => by
    simp only [Rep] at h ⊢
    obtain ⟨a, vs, e1, h1, h2⟩ := h
    exact ⟨a, vs, e1, e.tup a vs h1, Reps.mono e ds vs h2⟩
  | .ref n, v, h => by
    simp only [Rep] at h ⊢
    obtain ⟨a, e1, h1⟩ := h
    exact ⟨a, e1, e.pre n a h1⟩
  | .fn x, v, h => h
  | .rl ds, v, h => by
    simp only [Rep] at h ⊢
    obtain ⟨a, vs, e1, h1, h2⟩ := h
    exact ⟨a, vs, e1, e.rl a vs h1, Reps.mono e ds vs h2⟩
theorem Reps.mono {W : Wd} {ρ ρ' : List Addr} {H H' : Hp} (e : Ext W ρ H ρ' H') : ∀ (ds : List D) (vs : List V), Reps W ρ H ds vs → Reps W ρ' H' ds vs
  | [], _, h => h
  | d :: ds, vs, h => by
    simp only [Reps] at h ⊢
    obtain ⟨v, r, e1, h1, h2⟩ := h
    exact ⟨v, r, e1, Rep.mono e d v h1, Reps.mono e ds r h2⟩
end

section
variable {W : Wd} {ρ ρ' : List Addr} {H H' : Hp}
theorem Reps.length : ∀ {ds : List D} {vs : List V}, Reps W ρ H ds vs → vs.length = ds.length
  | [], vs, h => by simp only [Reps] at h; rw [h]; rfl
  | d :: ds, vs, h => by
    simp only [Reps] at h
    obtain ⟨v, r, e1, h1, h2⟩ := h
    rw [e1, List.length_cons, List.length_cons, Reps.length h2]
theorem Reps.nil : Reps W ρ H [] [] := by simp only [Reps]
theorem Reps.cons {d : D} {ds : List D} {v : V} {vs : List V} (h1 : Rep W ρ H d v) (h2 : Reps W ρ H ds vs) : Reps W ρ H (d :: ds) (v :: vs) := by
  simp only [Reps]; exact ⟨v, vs, rfl, h1, h2⟩
theorem Reps.get : ∀ {ds : List D} {vs : List V} {i : Nat} {d : D}, Reps W ρ H ds vs → ds[i]? = some d → ∃ v, vs[i]? = some v ∧ Rep W ρ H d v
  | [], _, _, _, _, h => by simp at h
  | d0 :: ds, vs, 0, d, h, e => by
    simp only [Reps] at h
    obtain ⟨v, r, e1, h1, h2⟩ := h
    simp at e; subst e; subst e1
    exact ⟨v, rfl, h1⟩
  | d0 :: ds, vs, i + 1, d, h, e => by
    simp only [Reps] at h
    obtain ⟨v, r, e1, h1, h2⟩ := h
    subst e1
    obtain ⟨v', g1, g2⟩ := Reps.get (i := i) (d := d) h2 (by simpa using e)
    exact ⟨v', by simpa using g1, g2⟩
theorem Reps.append : ∀ {ds es : List D} {vs ws : List V}, Reps W ρ H ds vs → Reps W ρ H es ws → Reps W ρ H (ds ++ es) (vs ++ ws)
  | [], es, vs, ws, h, g => by simp only [Reps] at h; subst h; exact g
  | d :: ds, es, vs, ws, h, g => by
    simp only [Reps] at h
    obtain ⟨v, r, e1, h1, h2⟩ := h
    subst e1
    exact Reps.cons h1 (Reps.append h2 g)
theorem Reps.drop : ∀ {ds : List D} {vs : List V} (n : Nat), Reps W ρ H ds vs → Reps W ρ H (ds.drop n) (vs.drop n)
  | _, _, 0, h => h
  | [], vs, n + 1, h => by simp only [Reps] at h; subst h; exact Reps.nil
  | d :: ds, vs, n + 1, h => by
    simp only [Reps] at h
    obtain ⟨v, r, e1, h1, h2⟩ := h
    subst e1
    exact Reps.drop n h2
theorem Reps.take : ∀ {ds : List D} {vs : List V} (n : Nat), Reps W ρ H ds vs → Reps W ρ H (ds.take n) (vs.take n)
  | _, _, 0, h => by simp only [List.take_zero]; exact Reps.nil
  | [], vs, n + 1, h => by simp only [Reps] at h; subst h; exact Reps.nil
  | d :: ds, vs, n + 1, h => by
    simp only [Reps] at h
    obtain ⟨v, r, e1, h1, h2⟩ := h
    subst e1
    exact Reps.cons h1 (Reps.take n h2)
theorem Reps.set : ∀ {ds : List D} {vs : List V} (n : Nat) {d : D} {v : V}, Reps W ρ H ds vs → Rep W ρ H d v → Reps W ρ H (ds.set n d) (vs.set n v)
  | [], vs, n, _, _, h, _ => by simp only [Reps] at h; subst h; exact Reps.nil
  | d0 :: ds, vs, 0, d, v, h, g => by
    simp only [Reps] at h
    obtain ⟨v0, r, e1, h1, h2⟩ := h
    subst e1
    exact Reps.cons g h2
  | d0 :: ds, vs, n + 1, d, v, h, g => by
    simp only [Reps] at h
    obtain ⟨v0, r, e1, h1, h2⟩ := h
    subst e1
    exact Reps.cons h1 (Reps.set n h2 g)
theorem Reps.eraseIdx : ∀ {ds : List D} {vs : List V} (n : Nat), Reps W ρ H ds vs → Reps W ρ H (ds.eraseIdx n) (vs.eraseIdx n)
  | [], vs, n, h => by simp only [Reps] at h; subst h; exact Reps.nil
  | d0 :: ds, vs, 0, h => by
    simp only [Reps] at h
    obtain ⟨v0, r, e1, h1, h2⟩ := h
    subst e1
    exact h2
  | d0 :: ds, vs, n + 1, h => by
    simp only [Reps] at h
    obtain ⟨v0, r, e1, h1, h2⟩ := h
    subst e1
    exact Reps.cons h1 (Reps.eraseIdx n h2)
theorem Reps.reverse : ∀ {ds : List D} {vs : List V}, Reps W ρ H ds vs → Reps W ρ H ds.reverse vs.reverse
  | [], vs, h => by simp only [Reps] at h; subst h; exact Reps.nil
  | d :: ds, vs, h => by
    simp only [Reps] at h
    obtain ⟨v, r, e1, h1, h2⟩ := h
    subst e1
    rw [List.reverse_cons, List.reverse_cons]
    exact Reps.append (Reps.reverse h2) (Reps.cons h1 Reps.nil)
end

/-- a dict's pairs -/
def KReps (W : Wd) (ρ : List Addr) (H : Hp) : List (Key × D) → List (Key × V) → Prop
  | [], vs => vs = []
  | (k, d) :: ds, vs => ∃ v r, vs = (k, v) :: r ∧ Rep W ρ H d v ∧ KReps W ρ H ds r
theorem KReps.mono {W : Wd} {ρ ρ' : List Addr} {H H' : Hp} (e : Ext W ρ H ρ' H') : ∀ {ds : List (Key × D)} {vs : List (Key × V)}, KReps W ρ H ds vs → KReps W ρ' H' ds vs
  | [], _, h => h
  | (k, d) :: ds, vs, h => by
    simp only [KReps] at h ⊢
    obtain ⟨v, r, e1, h1, h2⟩ := h
    exact ⟨v, r, e1, Rep.mono e d v h1, KReps.mono e h2⟩

/-- a cell and what stands at its address -/
def CellOk (W : Wd) (ρ : List Addr) (H : Hp) (a : Addr) : Cell → Prop
  | .lst ds => ∃ vs, H a = some (.lst vs) ∧ Reps W ρ H ds vs
  | .frz ds => ∃ vs o, H a = some (.frz o (.lst vs)) ∧ Reps W ρ H ds vs
  | .dct ks => ∃ ws, H a = some (.dK ws) ∧ KReps W ρ H ks ws
structure Rel (W : Wd) (ρ : List Addr) (st : Store) (H : Hp) : Prop where
  len : ρ.length = st.length
  wf : st.cs.length = st.length
  inj : ρ.Nodup
  cell : ∀ (n : Nat) a c, ρ[n]? = some a → st[n]? = some c → CellOk W ρ H a c

theorem CellOk.mono {W : Wd} {ρ ρ' : List Addr} {H H' : Hp} (e : Ext W ρ H ρ' H') {a : Addr} (h : H' a = H a) : ∀ {c : Cell}, CellOk W ρ H a c → CellOk W ρ' H' a c
  | .lst ds, ⟨vs, h1, h2⟩ => ⟨vs, h.trans h1, Reps.mono e _ _ h2⟩
  | .frz ds, ⟨vs, o, h1, h2⟩ => ⟨vs, o, h.trans h1, Reps.mono e _ _ h2⟩
  | .dct ks, ⟨ws, h1, h2⟩ => ⟨ws, h.trans h1, KReps.mono e h2⟩
theorem CellOk.some {W : Wd} {ρ : List Addr} {H : Hp} {a : Addr} : ∀ {c : Cell}, CellOk W ρ H a c → ∃ o, H a = some o ∧ ∀ xs, o ≠ .tup xs
  | .lst ds, ⟨vs, h1, h2⟩ => ⟨_, h1, fun _ z => nomatch z⟩
  | .frz ds, ⟨vs, o, h1, h2⟩ => ⟨_, h1, fun _ z => nomatch z⟩
  | .dct ks, ⟨ws, h1, h2⟩ => ⟨_, h1, fun _ z => nomatch z⟩

section
variable {W : Wd} {ρ ρ' : List Addr} {H H' : Hp} {st : Store} {a p : Addr} {n : Nat} {c c' : Cell} {o : HO}
theorem Rel.at (r : Rel W ρ st H) (h : st[n]? = some c) : ∃ a, ρ[n]? = some a ∧ CellOk W ρ H a c := by
  have hn : n < st.length := st_lt h
  have hn' : n < ρ.length := by rw [r.len]; exact hn
  exact ⟨ρ[n], List.getElem?_eq_getElem hn', r.cell n _ c (List.getElem?_eq_getElem hn') h⟩
theorem Rel.known (r : Rel W ρ st H) (h : a ∈ ρ) : ∃ o, H a = some o := by
  obtain ⟨n, hn, e⟩ := List.getElem_of_mem h
  have hn' : n < st.length := by rw [← r.len]; exact hn
  obtain ⟨c, hc⟩ := st_some r.wf hn'
  obtain ⟨o, e1, _⟩ := (r.cell n a c (by rw [List.getElem?_eq_getElem hn, e]) hc).some
  exact ⟨o, e1⟩
theorem Rel.fresh (r : Rel W ρ st H) (h : H p = none) : p ∉ ρ := fun z => by
  obtain ⟨o, e⟩ := r.known z
  rw [h] at e; cases e
theorem tup_upd {K : PySem.W.Frag} {xs : List V} (h : H p = none) (q : SqT K H a xs) : SqT K (upd H p o) a xs := by
  rcases q with (q | ⟨u, q⟩) | q
  · exact .inl (.inl (by rw [upd_ne (ne_of_none q h)]; exact q))
  · exact .inl (.inr ⟨u, by rw [upd_ne (ne_of_none q h)]; exact q⟩)
  · exact .inr q
theorem rl_upd {K : PySem.W.Frag} {xs : List V} {b : Addr} (h : ∀ o', H p ≠ some (.frz o' (.lst xs))) (q : SqR K H b xs) : SqR K (upd H p o) b xs := by
  rcases q with ⟨u, q⟩ | q
  · exact .inl ⟨u, by rw [upd_ne fun z => h u (by rw [← z]; exact q)]; exact q⟩
  · exact .inr q
/-- a new object, untracked by the store -/
theorem Ext.new (h : H p = none) : Ext W ρ H ρ (upd H p o) := ⟨fun _ _ e => e, fun _ _ q => tup_upd h q, fun _ _ q => rl_upd (fun o' z => by rw [h] at z; cases z) q⟩
theorem Rel.new (r : Rel W ρ st H) (h : H p = none) : Rel W ρ st (upd H p o) :=
  ⟨r.len, r.wf, r.inj, fun n a c e1 e2 => (r.cell n a c e1 e2).mono (Ext.new h) (upd_ne fun z => by
    obtain ⟨u, e⟩ := r.known (List.mem_of_getElem? e1)
    rw [z, h] at e; cases e)⟩
/-- a new cell -/
theorem Ext.snoc (h : H p = none) : Ext W ρ H (ρ ++ [p]) (upd H p o) := ⟨fun n a e => by
  rw [List.getElem?_append_left (List.getElem?_eq_some_iff.mp e).1]; exact e, fun _ _ q => tup_upd h q, fun _ _ q => rl_upd (fun o' z => by rw [h] at z; cases z) q⟩
theorem Rel.snoc (r : Rel W ρ st H) (h : H p = none) (hc : CellOk W (ρ ++ [p]) (upd H p o) p c) : Rel W (ρ ++ [p]) (st.push c) (upd H p o) := by
  refine ⟨by rw [List.length_append, r.len]; rfl, by show (c :: st.cs).length = st.length + 1; rw [List.length_cons, r.wf], ?_, fun n a c1 e1 e2 => ?_⟩
  · rw [List.nodup_append]
    refine ⟨r.inj, by simp, fun x hx y hy => ?_⟩
    have : y = p := by simpa using hy
    subst this
    intro z
    subst z
    exact r.fresh h hx
  · by_cases hn : n < ρ.length
    · rw [List.getElem?_append_left hn] at e1
      rw [st_push_lt (by rw [← r.len]; exact hn)] at e2
      refine (r.cell n a c1 e1 e2).mono (Ext.snoc h) (upd_ne fun z => ?_)
      obtain ⟨u, e⟩ := r.known (List.mem_of_getElem? e1)
      rw [z, h] at e; cases e
    · have hn2 : n = ρ.length := by
        have := (List.getElem?_eq_some_iff.mp e1).1
        rw [List.length_append] at this
        simp at this
        omega
      subst hn2
      rw [List.getElem?_append_right (Nat.le_refl _)] at e1
      simp at e1
      subst e1
      rw [r.len, st_push_eq] at e2
      cases e2
      exact hc
/-- a cell written -/
theorem Ext.write (hr : Rel W ρ st H) (h1 : ρ[n]? = some a) (h2 : st[n]? = some c) (hm : c.wr) : Ext W ρ H ρ (upd H a o) := by
  have ha := hr.cell n a c h1 h2
  have kr : ∀ xs u, H a ≠ some (.frz u (.lst xs)) := fun xs u => by
    cases c with
    | lst ds =>
      obtain ⟨vs, e, _⟩ := ha
      rw [e]
      exact nofun
    | frz ds => exact False.elim hm
    | dct ks =>
      obtain ⟨vs, e, _⟩ := ha
      rw [e]
      exact nofun
  refine ⟨fun _ _ e => e, fun b xs q => ?_, fun b xs q => rl_upd (kr xs) q⟩
  have key : ∀ u, H a ≠ some (.tup xs) ∧ H a ≠ some (.frz u (.tup xs)) := fun u => by
    cases c with
    | lst ds =>
      obtain ⟨vs, e, _⟩ := ha
      rw [e]
      exact ⟨nofun, nofun⟩
    | frz ds => exact False.elim hm
    | dct ks =>
      obtain ⟨vs, e, _⟩ := ha
      rw [e]
      exact ⟨nofun, nofun⟩
  rcases q with (q | ⟨u, q⟩) | q
  · refine .inl (.inl ?_)
    rw [upd_ne fun z => by subst z; exact (key default).1 q]
    exact q
  · refine .inl (.inr ⟨u, ?_⟩)
    rw [upd_ne fun z => by subst z; exact (key u).2 q]
    exact q
  · exact .inr q
theorem Rel.write (r : Rel W ρ st H) (h1 : ρ[n]? = some a) (h2 : st[n]? = some c) (hm : c.wr) (hc : CellOk W ρ (upd H a o) a c') : Rel W ρ (st.set n c') (upd H a o) := by
  have e := Ext.write (o := o) r h1 h2 hm
  have hl := st_lt h2
  refine ⟨r.len, by show (setC st.cs _ c').length = st.length; rw [setC_len, r.wf], r.inj, fun m b c1 e1 e2 => ?_⟩
  by_cases hmn : m = n
  · subst hmn
    rw [h1] at e1
    cases e1
    rw [st_set_self r.wf hl] at e2
    cases e2
    exact hc
  · rw [st_set_ne (Ne.symm hmn) hl] at e2
    refine (r.cell m b c1 e1 e2).mono e (upd_ne fun z => ?_)
    subst z
    obtain ⟨z1, z2⟩ := List.getElem?_eq_some_iff.mp e1
    obtain ⟨z3, z4⟩ := List.getElem?_eq_some_iff.mp h1
    exact hmn ((List.getElem_inj r.inj).mp (z2.trans z4.symm))
end

/-- the slots -/
def RelE (W : Wd) (ρ : List Addr) (H : Hp) (env : Slt) (σ : L2.St) : Prop :=
  env.length = σ.length ∧ ∀ (i : Nat) d, env[i]? = some (some d) → ∃ v, σ[i]? = some (some v) ∧ Rep W ρ H d v
section
variable {W : Wd} {ρ ρ' : List Addr} {H H' : Hp} {env : Slt} {σ : L2.St}
theorem RelE.mono (h : RelE W ρ H env σ) (e : Ext W ρ H ρ' H') : RelE W ρ' H' env σ :=
  ⟨h.1, fun i d q => let ⟨v, a, b⟩ := h.2 i d q; ⟨v, a, Rep.mono e d v b⟩⟩
theorem RelE.set (h : RelE W ρ H env σ) {i : Nat} {d : D} {v : V} (r : Rep W ρ H d v) : RelE W ρ H (env.set i (some d)) (σ.set i (some v)) := by
  refine ⟨by rw [List.length_set, List.length_set]; exact h.1, fun j d' q => ?_⟩
  by_cases hj : i = j
  · subst hj
    by_cases hl : i < env.length
    · rw [List.getElem?_set_self hl] at q
      cases q
      exact ⟨v, List.getElem?_set_self (by rw [← h.1]; exact hl), r⟩
    · rw [List.getElem?_eq_none (by simpa using hl)] at q
      cases q
  · rw [List.getElem?_set_ne hj] at q
    obtain ⟨v', a, b⟩ := h.2 j d' q
    exact ⟨v', by rw [List.getElem?_set_ne hj]; exact a, b⟩
end

/-- an exception as it lies -/
def XRep (W : Wd) (ρ : List Addr) (H : Hp) (c : Str) (fs : List (Str × D)) (cls : Value) (dd : Option Addr) : Prop :=
  ∃ C, W.mg c = some (.ref C) ∧ cls = .ref C ∧ (match fs with
    | [] => dd = none
    | [(f, d)] => ∃ a v, dd = some a ∧ H a = some (.xd [(f, v)]) ∧ Rep W ρ H d v
    | _ => False)

/-- what is wanted behind an evaluation -/
def Post {α β : Type} (W : Wd) (R : List Addr → Hp → α → β → Prop) (E : XK) (ρ : List Addr) (H : Hp) (o : Out α) (Q : β → Hp → Prop) : Prop :=
  match o with
  | .bad => False
  | .ok d st' => ∀ ρ' H' v, Ext W ρ H ρ' H' → Rel W ρ' st' H' → R ρ' H' d v → Q v H'
  | .exn c fs st' => ∀ ρ' H' cls dd, Ext W ρ H ρ' H' → Rel W ρ' st' H' → XRep W ρ' H' c fs cls dd → E cls dd H'
theorem Post.ext {α β : Type} {W : Wd} {R : List Addr → Hp → α → β → Prop} {E : XK} {ρ ρ1 : List Addr} {H H1 : Hp} {o : Out α} {Q : β → Hp → Prop} (h : Post W R E ρ H o Q) (e : Ext W ρ H ρ1 H1) : Post W R E ρ1 H1 o Q := by
  cases o with
  | bad => exact h
  | ok d st => exact fun ρ' H' v e' => h ρ' H' v (e.trans e')
  | exn c fs st => exact fun ρ' H' cls dd e' => h ρ' H' cls dd (e.trans e')

abbrev EM := Slt → Store → Out D
abbrev AM := Slt → Store → Out (List D)
/-- the canonical reading of an evaluation -/
def T (W : Wd) (E : XK) (m : EM) : TE := fun σ H Q => ∃ ρ env st, RelE W ρ H env σ ∧ Rel W ρ st H ∧ Post W (Rep W) E ρ H (m env st) Q
def TAr (W : Wd) (E : XK) (m : AM) : TA := fun σ H Q => ∃ ρ env st, RelE W ρ H env σ ∧ Rel W ρ st H ∧ Post W (Reps W) E ρ H (m env st) Q
def TB (W : Wd) (E : XK) (m : Slt → Store → Out Bool) : TT := fun σ H Q => ∃ ρ env st, RelE W ρ H env σ ∧ Rel W ρ st H ∧ Post W (fun _ _ (b c : Bool) => c = b) E ρ H (m env st) Q

/-- evaluate, then go on -/
theorem bindT {α β γ δ : Type} {W : Wd} {E : XK} {Ra : List Addr → Hp → α → β → Prop} {Rb : List Addr → Hp → γ → δ → Prop} {ρ : List Addr} {H : Hp} {o : Out α} {k : α → Store → Out γ} {Q : δ → Hp → Prop} {Q' : β → Hp → Prop}
    (h : Post W Rb E ρ H (o.bind k) Q) (hq : ∀ ρ1 H1 d v st1, Ext W ρ H ρ1 H1 → Rel W ρ1 st1 H1 → Ra ρ1 H1 d v → Post W Rb E ρ1 H1 (k d st1) Q → Q' v H1) : Post W Ra E ρ H o Q' := by
  cases o with
  | bad => exact h
  | ok d st1 => exact fun ρ1 H1 v e r p => hq ρ1 H1 d v st1 e r p (Post.ext h e)
  | exn c fs st1 => exact h
end Dp
set_option Elab.async false
set_option linter.all false
set_option maxRecDepth 100000
set_option maxHeartbeats 4000000
/-! Dp1: operators by value. -/
namespace Dp
open PySem PySem.Spec PyProof.Rows L2

abbrev Wof (X : Cx) : Wd := ⟨X.K, X.mg⟩
/-- what an operation needs, at these values -/
def OpV (X : Cx) (f : Value → Value → Sem Value) : R2 := fun x y H Q => ∀ (pins : List (Addr × Obj)) (s : Shared) (σ : L2.St) (v u : Value), Inv X pins σ H s → RelV x v → RelV y u → wpAny (model X.prog X.w) X.A (f v u) (EP X pins σ Q) X.xe s
theorem opv {X : Cx} {f : Value → Value → Sem Value} : OpR X f (OpV X f) := fun pins s σ H x y v u Q I r1 r2 h => h pins s σ v u I r1 r2
theorem OpV.of {X : Cx} {f : Value → Value → Sem Value} {r : R2} (h : OpR X f r) {x y : V} {H : Hp} {Q : VK} (q : r x y H Q) : OpV X f x y H Q := fun pins s σ v u I r1 r2 => h pins s σ H x y v u Q I r1 r2 q
def UnV (X : Cx) (f : Value → Sem Value) : V → Hp → VK → Prop := fun x H Q => ∀ (pins : List (Addr × Obj)) (s : Shared) (σ : L2.St) (v : Value), Inv X pins σ H s → RelV x v → wpAny (model X.prog X.w) X.A (f v) (EP X pins σ Q) X.xe s
theorem unv {X : Cx} {f : Value → Sem Value} : UnR X f (UnV X f) := fun pins s σ H x v Q I r1 h => h pins s σ v I r1
theorem UnV.of {X : Cx} {f : Value → Sem Value} {r : V → Hp → VK → Prop} (h : UnR X f r) {x : V} {H : Hp} {Q : VK} (q : r x H Q) : UnV X f x H Q := fun pins s σ v I r1 => h pins s σ H x v Q I r1 q
def CallV (X : Cx) (f : Value) : List V → Hp → VK → Prop := fun xs H Q => ∀ (pins : List (Addr × Obj)) (s : Shared) (σ : L2.St) (us : List Value), Inv X pins σ H s → Vals xs us → wpAny (model X.prog X.w) X.A (call f us) (EP X pins σ Q) X.xe s
theorem callv {X : Cx} {f : Value} : CallR X f (CallV X f) := fun pins s σ H xs us Q I r1 h => h pins s σ us I r1
theorem CallV.of {X : Cx} {f : Value} {r : List V → Hp → VK → Prop} (h : CallR X f r) {xs : List V} {H : Hp} {Q : VK} (q : r xs H Q) : CallV X f xs H Q := fun pins s σ us I r1 => h pins s σ H xs us Q I r1 q

abbrev PostD (W : Wd) := @Post D V W (Rep W)

section
variable {W : Wd} {ρ : List Addr} {H : Hp} {d : D} {v : V}
theorem rep_int {i : Int} : Rep W ρ H (.int i) v ↔ v = .int i := by simp only [Rep]
theorem rep_str {i : Str} : Rep W ρ H (.str i) v ↔ v = .str i := by simp only [Rep]
theorem rep_bl {i : Bool} : Rep W ρ H (.bl i) v ↔ v = .bl i := by simp only [Rep]
theorem rep_non : Rep W ρ H .non v ↔ v = .non := by simp only [Rep]
theorem rep_ty {n : Ty} : Rep W ρ H (.ty n) v ↔ v = .ty n.name := by simp only [Rep]
theorem rep_tup {ds : List D} : Rep W ρ H (.tup ds) v ↔ ∃ a vs, v = .ref a ∧ SqT W.K H a vs ∧ Reps W ρ H ds vs := by simp only [Rep]
theorem rep_ref {n : Nat} : Rep W ρ H (.ref n) v ↔ ∃ a, v = .ref a ∧ ρ[n]? = some a := by simp only [Rep]
theorem rep_fn {n : Str} : Rep W ρ H (.fn n) v ↔ ∃ f, v = .ref f ∧ W.mg n = some (.ref f) := by simp only [Rep]
end

theorem rep_rl {W : Wd} {ρ : List Addr} {H : Hp} {v : V} {ds : List D} : Rep W ρ H (.rl ds) v ↔ ∃ a vs, v = .ref a ∧ SqR W.K H a vs ∧ Reps W ρ H ds vs := by simp only [Rep]
/-- a new tuple as the answer -/
theorem post_tup {W : Wd} {E : XK} {ρ : List Addr} {H : Hp} {st : Store} {Q : VK} {ds : List D} {vs : List V} (r : Rel W ρ st H) (h : PostD W E ρ H (.ok (.tup ds) st) Q) (hs : Reps W ρ H ds vs) : ∀ p, H p = none → Q (.ref p) (upd H p (.tup vs)) := fun p hp => by
  have e : Ext W ρ H ρ (upd H p (.tup vs)) := Ext.new hp
  exact h ρ _ _ e (r.new hp) (rep_tup.mpr ⟨p, vs, rfl, SqT.of upd_same, Reps.mono e _ _ hs⟩)
/-- a new list as the answer -/
theorem post_lst {W : Wd} {E : XK} {ρ : List Addr} {H : Hp} {st : Store} {Q : VK} {ds : List D} {vs : List V} (r : Rel W ρ st H) (h : PostD W E ρ H (.ok (.ref st.length) (st.push (.lst ds))) Q) (hs : Reps W ρ H ds vs) : ∀ p, H p = none → Q (.ref p) (upd H p (.lst vs)) := fun p hp => by
  have e : Ext W ρ H (ρ ++ [p]) (upd H p (.lst vs)) := Ext.snoc hp
  refine h _ _ _ e (r.snoc hp ⟨vs, upd_same, Reps.mono e _ _ hs⟩) (rep_ref.mpr ⟨p, rfl, ?_⟩)
  rw [← r.len, List.getElem?_append_right (Nat.le_refl _)]
  simp
theorem post_dct {W : Wd} {E : XK} {ρ : List Addr} {H : Hp} {st : Store} {Q : VK} {ds : List (Key × D)} {vs : List (Key × V)} (r : Rel W ρ st H) (h : PostD W E ρ H (.ok (.ref st.length) (st.push (.dct ds))) Q) (hs : KReps W ρ H ds vs) : ∀ p, H p = none → Q (.ref p) (upd H p (.dK vs)) := fun p hp => by
  have e : Ext W ρ H (ρ ++ [p]) (upd H p (.dK vs)) := Ext.snoc hp
  refine h _ _ _ e (r.snoc hp ⟨vs, upd_same, KReps.mono e hs⟩) (rep_ref.mpr ⟨p, rfl, ?_⟩)
  rw [← r.len, List.getElem?_append_right (Nat.le_refl _)]
  simp
theorem post_same {W : Wd} {E : XK} {ρ : List Addr} {H : Hp} {st : Store} {Q : VK} {d : D} {v : V} (r : Rel W ρ st H) (h : PostD W E ρ H (.ok d st) Q) (hs : Rep W ρ H d v) : Q v H := h ρ H v Ext.refl r hs
theorem lst_at {W : Wd} {ρ : List Addr} {H : Hp} {st : Store} {n : Nat} {v : V} {ds : List D} (r : Rel W ρ st H) (h : Rep W ρ H (.ref n) v) (e : st[n]? = some (.lst ds)) : ∃ a vs, v = .ref a ∧ ρ[n]? = some a ∧ H a = some (.lst vs) ∧ Reps W ρ H ds vs := by
  obtain ⟨a, rfl, h1⟩ := rep_ref.mp h
  obtain ⟨vs, h2, h3⟩ := r.cell n a _ h1 e
  exact ⟨a, vs, rfl, h1, h2, h3⟩
theorem dct_at {W : Wd} {ρ : List Addr} {H : Hp} {st : Store} {n : Nat} {v : V} {ds : List (Key × D)} (r : Rel W ρ st H) (h : Rep W ρ H (.ref n) v) (e : st[n]? = some (.dct ds)) : ∃ a vs, v = .ref a ∧ ρ[n]? = some a ∧ H a = some (.dK vs) ∧ KReps W ρ H ds vs := by
  obtain ⟨a, rfl, h1⟩ := rep_ref.mp h
  obtain ⟨vs, h2, h3⟩ := r.cell n a _ h1 e
  exact ⟨a, vs, rfl, h1, h2, h3⟩
/-- the items of a list cell, frozen or not -/
def Cell.items : Cell → Option (List D)
  | .lst xs => some xs
  | .frz xs => some xs
  | .dct _ => none
theorem itm_at {W : Wd} {ρ : List Addr} {H : Hp} {st : Store} {n : Nat} {v : V} {ds : List D} (r : Rel W ρ st H) (h : Rep W ρ H (.ref n) v) (e : (st[n]?).bind Cell.items = some ds) : ∃ a vs, v = .ref a ∧ SqL W.K H a vs ∧ Reps W ρ H ds vs := by
  obtain ⟨a, rfl, h1⟩ := rep_ref.mp h
  cases hc : st[n]? with
  | none => rw [hc] at e; cases e
  | some c =>
    rw [hc] at e
    have hx := r.cell n a _ h1 hc
    cases c with
    | lst xs =>
      cases e
      obtain ⟨vs, h2, h3⟩ := hx
      exact ⟨a, vs, rfl, SqL.of h2, h3⟩
    | frz xs =>
      cases e
      obtain ⟨vs, o, h2, h3⟩ := hx
      exact ⟨a, vs, rfl, .inl (.inr ⟨o, h2⟩), h3⟩
    | dct k => cases e

def big : Nat := 100000
theorem sz_big {n : Nat} (h : n ≤ big) : n ≤ sizeLine := Nat.le_trans h (by decide)
theorem sz_bigL {n : Nat} (h : n < big) : n < sizeLine := Nat.lt_of_lt_of_le h (by decide)

/-! ### operators -/
def mulOk (i j : Int) : Bool := (decide (-(2 ^ 64) < i) && decide (i < 2 ^ 64)) || (decide (-(2 ^ 64) < j) && decide (j < 2 ^ 64))
def binOp (op : Operator) (x y : D) (st : Store) : Out D :=
  match op, x, y with
  | .Add, .int i, .int j => .ok (.int (i + j)) st
  | .Add, .str a, .str b => if a.length + b.length ≤ big then .ok (.str (a ++ b)) st else .bad
  | .Add, .tup xs, .tup ys => if xs.length + ys.length ≤ big then .ok (.tup (xs ++ ys)) st else .bad
  | .Add, .ref n, .ref m => match st[n]?, st[m]? with
    | some (.lst xs), some (.lst ys) => if xs.length + ys.length ≤ big then .ok (.ref st.length) (st.push (.lst (xs ++ ys))) else .bad
    | _, _ => .bad
  | .Sub, .int i, .int j => .ok (.int (i - j)) st
  | .Mult, .int i, .int j => if mulOk i j then .ok (.int (i * j)) st else .bad
  | .Mult, .tup xs, .int k => if (xs = [] ∨ k = 1) ∧ 0 ≤ k ∧ k ≤ 1000 then .ok (.tup xs) st else if 2 ≤ k ∧ k ≤ 1000 ∧ xs.length ≤ 1000 then .ok (.tup (List.replicate k.toNat xs).flatten) st else .bad
  | .Mult, .ref n, .int k => match st[n]? with
    | some (.lst xs) => if 0 ≤ k ∧ k ≤ 1000 ∧ xs.length * k.toNat ≤ big then .ok (.ref st.length) (st.push (.lst (List.replicate k.toNat xs).flatten)) else .bad
    | _ => .bad
  | .FloorDiv, .int i, .int j => if 0 < j ∧ j < 1073741824 then .ok (.int (i / j)) st else .bad
  | .Mod, .int i, .int j => if 0 < j then .ok (.int (i % j)) st else .bad
  | .Pow, .int i, .int j => if 0 ≤ j ∧ j ≤ 1000 ∧ i.natAbs < 2 ^ 64 then .ok (.int (i ^ j.toNat)) st else .bad
  | _, _, _ => .bad

theorem Reps.rep {W : Wd} {ρ : List Addr} {H : Hp} {ds : List D} {vs : List V} (h : Reps W ρ H ds vs) : ∀ k : Nat, Reps W ρ H (List.replicate k ds).flatten (List.replicate k vs).flatten
  | 0 => Reps.nil
  | k + 1 => by
    rw [List.replicate_succ, List.replicate_succ, List.flatten_cons, List.flatten_cons]
    exact h.append (Reps.rep h k)
theorem mul_ok {i j : Int} (h : mulOk i j = true) : CMul i j := by
  unfold mulOk at h
  simp only [Bool.or_eq_true, Bool.and_eq_true, decide_eq_true_eq] at h
  exact h

section
variable {X : Cx} {E : XK} {ρ : List Addr} {H : Hp} {st : Store} {Q : VK} {x y : D} {v u : V}
theorem bin_ok {op : Operator} (r : Rel (Wof X) ρ st H) (hx : Rep (Wof X) ρ H x v) (hy : Rep (Wof X) ρ H y u) (h : PostD (Wof X) E ρ H (binOp op x y st) Q) : OpV X (binaryOp op) v u H Q := by
  unfold binOp at h
  split at h
  · cases rep_int.mp hx; cases rep_int.mp hy
    exact OpV.of op_add ⟨_, _, rfl, rfl, post_same r h (rep_int.mpr rfl)⟩
  · cases rep_str.mp hx; cases rep_str.mp hy
    split at h
    · rename_i hz
      exact OpV.of op_add_str ⟨_, _, rfl, rfl, sz_big hz, post_same r h (rep_str.mpr rfl)⟩
    · exact h.elim
  · obtain ⟨a, vs, rfl, h1, h2⟩ := rep_tup.mp hx
    obtain ⟨b, us, rfl, h3, h4⟩ := rep_tup.mp hy
    rename_i xs ys
    split at h
    · rename_i hz
      refine OpV.of op_catA ⟨a, b, vs, us, rfl, rfl, h1, h3, by rw [h2.length, h4.length]; exact sz_big hz, fun e => ?_, fun _ e => ?_, fun _ _ => post_tup r h (h2.append h4)⟩
      · subst e
        have e0 : xs = [] := List.eq_nil_of_length_eq_zero h2.length.symm
        subst e0
        exact post_same r h (rep_tup.mpr ⟨b, us, rfl, h3, h4⟩)
      · subst e
        have e0 : ys = [] := List.eq_nil_of_length_eq_zero h4.length.symm
        subst e0
        rw [List.append_nil] at h
        exact post_same r h (rep_tup.mpr ⟨a, vs, rfl, h1, h2⟩)
    · exact h.elim
  · split at h
    · rename_i e1 e2
      obtain ⟨a, vs, rfl, _, h1, h2⟩ := lst_at r hx e1
      obtain ⟨b, us, rfl, _, h3, h4⟩ := lst_at r hy e2
      split at h
      · rename_i hz
        exact OpV.of op_cat ⟨a, b, vs, us, rfl, rfl, h1, h3, by rw [h2.length, h4.length]; exact sz_big hz, post_lst r h (h2.append h4)⟩
      · exact h.elim
    · exact h.elim
  · cases rep_int.mp hx; cases rep_int.mp hy
    exact OpV.of op_sub ⟨_, _, rfl, rfl, post_same r h (rep_int.mpr rfl)⟩
  · cases rep_int.mp hx; cases rep_int.mp hy
    split at h
    · rename_i hz
      exact OpV.of op_mul ⟨_, _, rfl, rfl, mul_ok hz, post_same r h (rep_int.mpr rfl)⟩
    · exact h.elim
  · obtain ⟨a, vs, rfl, h1, h2⟩ := rep_tup.mp hx
    cases rep_int.mp hy
    rename_i xs k
    split at h
    · rename_i hz
      refine OpV.of op_rep1 ⟨a, _, vs, rfl, rfl, h1, ?_, hz.2.1, hz.2.2, post_same r h hx⟩
      rcases hz.1 with e | e
      · subst e
        exact .inl (List.eq_nil_of_length_eq_zero h2.length)
      · exact .inr e
    · rename_i hz0
      split at h
      · rename_i hz
        refine OpV.of op_repT ⟨a, _, vs, rfl, rfl, h1, fun e => ?_, hz.1, hz.2.1, by rw [h2.length]; exact hz.2.2, post_tup r h (h2.rep _)⟩
        subst e
        exact hz0 ⟨.inl (List.eq_nil_of_length_eq_zero h2.length.symm), by omega, hz.2.1⟩
      · exact h.elim
  · cases rep_int.mp hy
    split at h
    · rename_i e1
      obtain ⟨a, vs, rfl, _, h1, h2⟩ := lst_at r hx e1
      split at h
      · rename_i hz
        exact OpV.of op_rep ⟨a, _, vs, rfl, rfl, h1, by omega, by omega, by rw [h2.length]; exact sz_big hz.2.2, post_lst r h (h2.rep _)⟩
      · exact h.elim
    · exact h.elim
  · cases rep_int.mp hx; cases rep_int.mp hy
    split at h
    · rename_i hz
      exact OpV.of op_fdiv ⟨_, _, rfl, rfl, hz, post_same r h (rep_int.mpr rfl)⟩
    · exact h.elim
  · cases rep_int.mp hx; cases rep_int.mp hy
    split at h
    · rename_i hz
      exact OpV.of op_mod ⟨_, _, rfl, rfl, hz, post_same r h (rep_int.mpr rfl)⟩
    · exact h.elim
  · cases rep_int.mp hx; cases rep_int.mp hy
    split at h
    · rename_i hz
      exact OpV.of op_pow ⟨_, _, rfl, rfl, ⟨hz.1, by omega, hz.2.2⟩, post_same r h (rep_int.mpr rfl)⟩
    · exact h.elim
  · exact h.elim

def unOp (op : UnaryOp) (x : D) (st : Store) : Out D :=
  match op, x with
  | .USub, .int i => .ok (.int (-i)) st
  | _, _ => .bad
theorem un_ok {op : UnaryOp} (r : Rel (Wof X) ρ st H) (hx : Rep (Wof X) ρ H x v) (h : PostD (Wof X) E ρ H (unOp op x st) Q) : UnV X (unaryOp op) v H Q := by
  unfold unOp at h
  split at h
  · cases rep_int.mp hx
    exact UnV.of un_neg ⟨_, rfl, post_same r h (rep_int.mpr rfl)⟩
  · exact h.elim
end
end Dp
set_option Elab.async false
set_option linter.all false
set_option maxRecDepth 100000
set_option maxHeartbeats 4000000
/-! Dp2: comparisons, places, slices, built-ins by value. -/
namespace Dp
open PySem PySem.Spec PyProof.Rows L2

/-! ### data read off -/
def pyL (f : D → Option PyData) : List D → Option (List PyData)
  | [] => some []
  | d :: ds => match f d, pyL f ds with
    | some p, some ps => some (p :: ps)
    | _, _ => none
def pyOf : Nat → Store → D → Option PyData
  | 0, _, _ => none
  | k + 1, st, d => match d with
    | .non => some .none
    | .bl b => some (.bool b)
    | .int i => some (.int i)
    | .str s => some (.str s)
    | .tup ds => (pyL (pyOf k st) ds).map .tuple
    | .ref n => match (st[n]?).bind Cell.items with
      | some ds => (pyL (pyOf k st) ds).map .list
      | none => none
    | _ => none
section
variable {W : Wd} {ρ : List Addr} {H : Hp} {st : Store}
theorem pyL_ok {f : D → Option PyData} (hf : ∀ d p v, f d = some p → Rep W ρ H d v → L2.Dp W.K H v p) : ∀ {ds : List D} {ps : List PyData} {vs : List V}, pyL f ds = some ps → Reps W ρ H ds vs → L2.DpAll W.K H vs ps
  | [], ps, vs, h, r => by
    simp only [Reps] at r
    subst r
    cases h
    exact .nil
  | d :: ds, ps, vs, h, r => by
    simp only [Reps] at r
    obtain ⟨v, w, rfl, r1, r2⟩ := r
    unfold pyL at h
    split at h
    · rename_i p qs e1 e2
      cases h
      exact .cons (hf d p v e1 r1) (pyL_ok hf e2 r2)
    · cases h
theorem pyOf_ok (hR : Rel W ρ st H) : ∀ (k : Nat) (d : D) (p : PyData) (v : V), pyOf k st d = some p → Rep W ρ H d v → L2.Dp W.K H v p
  | 0, _, _, _, h, _ => by cases h
  | k + 1, d, p, v, h, r => by
    unfold pyOf at h
    split at h
    · cases h; cases rep_non.mp r; exact .non
    · cases h; cases rep_bl.mp r; exact .bl _
    · cases h; cases rep_int.mp r; exact .int _
    · cases h; cases rep_str.mp r; exact .str _
    · rename_i ds
      obtain ⟨a, vs, rfl, h1, h2⟩ := rep_tup.mp r
      cases hp : pyL (pyOf k st) ds with
      | none => rw [hp] at h; cases h
      | some ps =>
        rw [hp] at h
        cases h
        exact .tup h1 (pyL_ok (fun d p v e q => pyOf_ok hR k d p v e q) hp h2)
    · split at h
      · rename_i ds e
        obtain ⟨a, vs, rfl, h1, h2⟩ := itm_at hR r e
        cases hp : pyL (pyOf k st) ds with
        | none => rw [hp] at h; cases h
        | some ps =>
          rw [hp] at h
          cases h
          exact .lst h1 (pyL_ok (fun d p v e q => pyOf_ok hR k d p v e q) hp h2)
      · cases h
    · cases h
end
def deep : Nat := 24

/-! ### flat values, keys -/
def flatOf : D → Option V
  | .non => some .non
  | .bl b => some (.bl b)
  | .int i => some (.int i)
  | .str s => some (.str s)
  | _ => none
def flatAll : List D → Option (List V)
  | [] => some []
  | d :: ds => match flatOf d, flatAll ds with
    | some v, some vs => some (v :: vs)
    | _, _ => none
def keyOf : D → Option Key
  | .int i => some (.inl i)
  | .str s => some (.inr s)
  | _ => none
section
variable {W : Wd} {ρ : List Addr} {H : Hp}
theorem flat_ok {d : D} {v w : V} (h : flatOf d = some w) (r : Rep W ρ H d v) : v = w ∧ flatV w = true := by
  unfold flatOf at h
  split at h
  · cases h; exact ⟨rep_non.mp r, rfl⟩
  · cases h; exact ⟨rep_bl.mp r, rfl⟩
  · cases h; exact ⟨rep_int.mp r, rfl⟩
  · cases h; exact ⟨rep_str.mp r, rfl⟩
  · cases h
theorem flats_ok : ∀ {ds : List D} {vs ws : List V}, flatAll ds = some ws → Reps W ρ H ds vs → vs = ws ∧ ws.all flatV = true
  | [], vs, ws, h, r => by
    simp only [Reps] at r
    subst r
    cases h
    exact ⟨rfl, rfl⟩
  | d :: ds, vs, ws, h, r => by
    simp only [Reps] at r
    obtain ⟨v, w, rfl, r1, r2⟩ := r
    unfold flatAll at h
    split at h
    · rename_i x xs e1 e2
      cases h
      obtain ⟨rfl, f1⟩ := flat_ok e1 r1
      obtain ⟨rfl, f2⟩ := flats_ok e2 r2
      exact ⟨rfl, by rw [List.all_cons, f1, f2]; rfl⟩
    · cases h
theorem key_ok {d : D} {v : V} {k : Key} (h : keyOf d = some k) (r : Rep W ρ H d v) : v = kV k := by
  unfold keyOf at h
  split at h
  · cases h; exact rep_int.mp r
  · cases h; exact rep_str.mp r
  · cases h
end
def valD (kvs : List (Key × D)) (k : Key) : Option D := (kvs.find? fun kv => decide (kv.1 = k)).map (·.2)
def putD (kvs : List (Key × D)) (k : Key) (v : D) : List (Key × D) :=
  if (kvs.any fun kv => decide (kv.1 = k)) = true then kvs.map (fun kv => if kv.1 = k then (kv.1, v) else kv) else kvs ++ [(k, v)]
section
variable {W : Wd} {ρ : List Addr} {H : Hp}
theorem val_ok (k : Key) : ∀ {ks : List (Key × D)} {ws : List (Key × V)}, KReps W ρ H ks ws → match valD ks k with | some d => ∃ v, valV ws k = some v ∧ Rep W ρ H d v | none => valV ws k = none
  | [], ws, r => by
    simp only [KReps] at r
    subst r
    rfl
  | (j, d) :: ks, ws, r => by
    simp only [KReps] at r
    obtain ⟨v, w, rfl, r1, r2⟩ := r
    have ih := val_ok k r2
    unfold valD valV at ih ⊢
    by_cases hj : j = k
    · subst hj
      simp only [List.find?_cons, decide_true, Option.map_some]
      exact ⟨v, rfl, r1⟩
    · simp only [List.find?_cons, decide_eq_false hj]
      exact ih
theorem any_ok (k : Key) : ∀ {ks : List (Key × D)} {ws : List (Key × V)}, KReps W ρ H ks ws → (ks.any fun kv => decide (kv.1 = k)) = (ws.any fun kv => decide (kv.1 = k))
  | [], ws, r => by
    simp only [KReps] at r
    subst r
    rfl
  | (j, d) :: ks, ws, r => by
    simp only [KReps] at r
    obtain ⟨v, w, rfl, r1, r2⟩ := r
    rw [List.any_cons, List.any_cons, any_ok k r2]
theorem KReps.len : ∀ {ks : List (Key × D)} {ws : List (Key × V)}, KReps W ρ H ks ws → ws.length = ks.length
  | [], ws, r => by
    simp only [KReps] at r
    subst r
    rfl
  | (j, d) :: ks, ws, r => by
    simp only [KReps] at r
    obtain ⟨v, w, rfl, r1, r2⟩ := r
    rw [List.length_cons, List.length_cons, KReps.len r2]
theorem KReps.snoc {k : Key} {d : D} {v : V} (hv : Rep W ρ H d v) : ∀ {ks : List (Key × D)} {ws : List (Key × V)}, KReps W ρ H ks ws → KReps W ρ H (ks ++ [(k, d)]) (ws ++ [(k, v)])
  | [], ws, r => by
    simp only [KReps] at r
    subst r
    simp only [List.nil_append, KReps]
    exact ⟨v, [], rfl, hv, rfl⟩
  | (j, e) :: ks, ws, r => by
    simp only [KReps] at r
    obtain ⟨w, t, rfl, r1, r2⟩ := r
    simp only [List.cons_append, KReps]
    exact ⟨w, _, rfl, r1, KReps.snoc hv r2⟩
theorem KReps.over {k : Key} {d : D} {v : V} (hv : Rep W ρ H d v) : ∀ {ks : List (Key × D)} {ws : List (Key × V)}, KReps W ρ H ks ws → KReps W ρ H (ks.map fun kv => if kv.1 = k then (kv.1, d) else kv) (ws.map fun kv => if kv.1 = k then (kv.1, v) else kv)
  | [], ws, r => by
    simp only [KReps] at r
    subst r
    simp only [List.map_nil, KReps]
  | (j, e) :: ks, ws, r => by
    simp only [KReps] at r
    obtain ⟨w, t, rfl, r1, r2⟩ := r
    have ih := KReps.over (k := k) hv r2
    simp only [List.map_cons]
    by_cases hj : j = k
    · simp only [hj, if_true, KReps]
      exact ⟨v, _, rfl, hv, ih⟩
    · simp only [hj, if_false, KReps]
      exact ⟨w, _, rfl, r1, ih⟩
theorem put_ok {k : Key} {d : D} {v : V} (hv : Rep W ρ H d v) {ks : List (Key × D)} {ws : List (Key × V)} (r : KReps W ρ H ks ws) : KReps W ρ H (putD ks k d) (putK ws k v) := by
  unfold putD putK
  rw [any_ok k r]
  split
  · exact KReps.over hv r
  · exact KReps.snoc hv r
end

/-! ### comparisons -/
def signOf (s : Str) : Option Nat := match s.cps.toList with
  | [c] => some c
  | _ => none
theorem sign_ok {s : Str} {c : Nat} (h : signOf s = some c) : s = ⟨#[c]⟩ := by
  unfold signOf at h
  split at h
  · rename_i x e
    cases h
    cases s with
    | mk a =>
      have : a = #[c] := by
        apply Array.toList_inj.mp
        exact e
      rw [this]
  · cases h
def isIn (x y : D) (st : Store) : Option Bool :=
  match y with
  | .str z => match x with
    | .str s => match signOf s with
      | some c => some (decide (c ∈ z.cps.toList))
      | none => none
    | _ => none
  | .tup ds => match flatOf x, flatAll ds with
    | some v, some vs => some (inV v vs)
    | _, _ => none
  | .ref n => match st[n]? with
    | some (.dct ks) => match keyOf x with
      | some k => some (valD ks k).isSome
      | none => none
    | some (.lst ds) => match flatOf x, flatAll ds with
      | some v, some vs => some (inV v vs)
      | _, _ => none
    | _ => none
  | _ => none
def isNon : D → Bool
  | .non => true
  | _ => false
def eqD (x y : D) (st : Store) : Option Bool := match pyOf deep st x, pyOf deep st y with
  | some p, some q => if SeqAt.shaped p && SeqAt.shaped q then some (PyData.eqv p q) else none
  | _, _ => none
def outB (o : Option Bool) (st : Store) : Out D := match o with
  | some b => .ok (.bl b) st
  | none => .bad
def cmpOp (op : CmpOp) (x y : D) (st : Store) : Out D :=
  match op with
  | .Eq => outB (eqD x y st) st
  | .NotEq => outB ((eqD x y st).map (!·)) st
  | .In => outB (isIn x y st) st
  | .NotIn => outB ((isIn x y st).map (!·)) st
  | .Is => match y with
    | .non => .ok (.bl (isNon x)) st
    | _ => .bad
  | .IsNot => match y with
    | .non => .ok (.bl (!isNon x)) st
    | _ => .bad
  | .Lt => match x, y with
    | .int i, .int j => .ok (.bl (decide (i < j))) st
    | .str i, .str j => .ok (.bl (decide (i.cps.toList < j.cps.toList))) st
    | _, _ => .bad
  | .LtE => match x, y with
    | .int i, .int j => .ok (.bl (decide (i ≤ j))) st
    | _, _ => .bad
  | .Gt => match x, y with
    | .int i, .int j => .ok (.bl (decide (j < i))) st
    | _, _ => .bad
  | .GtE => match x, y with
    | .int i, .int j => .ok (.bl (decide (j ≤ i))) st
    | _, _ => .bad
theorem non_ok {W : Wd} {ρ : List Addr} {H : Hp} {d : D} {v : V} (r : Rep W ρ H d v) : decide (v = .non) = isNon d := by
  cases d with
  | non => cases rep_non.mp r; rfl
  | bl b => cases rep_bl.mp r; rfl
  | int b => cases rep_int.mp r; rfl
  | str b => cases rep_str.mp r; rfl
  | ty b => cases rep_ty.mp r; rfl
  | tup b => obtain ⟨a, vs, rfl, _⟩ := rep_tup.mp r; rfl
  | ref n => obtain ⟨a, rfl, _⟩ := rep_ref.mp r; rfl
  | fn n => obtain ⟨a, rfl, _⟩ := rep_fn.mp r; rfl
  | rl n => obtain ⟨a, vs, rfl, _⟩ := rep_rl.mp r; rfl
section
variable {X : Cx} {E : XK} {ρ : List Addr} {H : Hp} {st : Store} {Q : VK} {x y : D} {v u : V}
theorem eqD_ok {b : Bool} (r : Rel (Wof X) ρ st H) (hx : Rep (Wof X) ρ H x v) (hy : Rep (Wof X) ρ H y u) (h : eqD x y st = some b) : ∃ p q, L2.Dp X.K H v p ∧ L2.Dp X.K H u q ∧ SeqAt.shaped p = true ∧ SeqAt.shaped q = true ∧ PyData.eqv p q = b := by
  unfold eqD at h
  split at h
  · rename_i p q e1 e2
    split at h
    · rename_i hs
      rw [Bool.and_eq_true] at hs
      cases h
      exact ⟨p, q, pyOf_ok r deep x p v e1 hx, pyOf_ok r deep y q u e2 hy, hs.1, hs.2, rfl⟩
    · cases h
  · cases h
theorem in_ok {b : Bool} (hu : X.A.units + 64 < cLine) (r : Rel (Wof X) ρ st H) (hx : Rep (Wof X) ρ H x v) (hy : Rep (Wof X) ρ H y u) (h : isIn x y st = some b) (q : Q (.bl b) H) : OpV X (compareOp .In) v u H Q := by
  have hu1 : X.A.units + 1 < cLine := by omega
  unfold isIn at h
  split at h
  · cases rep_str.mp hy
    split at h
    · cases rep_str.mp hx
      split at h
      · rename_i c e
        cases h
        cases sign_ok e
        exact OpV.of op_in_sign ⟨c, _, rfl, rfl, q⟩
      · cases h
    · cases h
  · rename_i ds
    obtain ⟨a, vs, rfl, h1, h2⟩ := rep_tup.mp hy
    split at h
    · rename_i w ws e1 e2
      cases h
      obtain ⟨rfl, f1⟩ := flat_ok e1 hx
      obtain ⟨rfl, f2⟩ := flats_ok e2 h2
      exact OpV.of op_in_seq ⟨a, vs, rfl, .inr h1, f1, f2, q⟩
    · cases h
  · split at h
    · rename_i ks e
      obtain ⟨a, ws, rfl, _, h2, h3⟩ := dct_at r hy e
      split at h
      · rename_i k ek
        cases h
        cases key_ok ek hx
        have hv := val_ok k h3
        have hb : (valV ws k).isSome = (valD ks k).isSome := by
          cases hd : valD ks k with
          | none => rw [hd] at hv; rw [hv]; rfl
          | some d =>
            rw [hd] at hv
            obtain ⟨v', e', _⟩ := hv
            rw [e']
            rfl
        intro pins s σ vv uu I r1 r2
        obtain rfl : uu = Value.ref a := r2
        exact d_in hu1 I (DGet.k h2) r1 fun s3 I3 => ⟨.bl _, H, I3, rfl, by rw [hb]; exact q⟩
      · cases h
    · rename_i ds e
      obtain ⟨a, vs, rfl, _, h2, h3⟩ := lst_at r hy e
      split at h
      · rename_i w ws e1 e2
        cases h
        obtain ⟨rfl, f1⟩ := flat_ok e1 hx
        obtain ⟨rfl, f2⟩ := flats_ok e2 h3
        exact OpV.of op_in_seq ⟨a, vs, rfl, .inl (SqL.of h2), f1, f2, q⟩
      · cases h
    · cases h
  · cases h
theorem notIn_ok {b : Bool} (hu : X.A.units + 64 < cLine) (r : Rel (Wof X) ρ st H) (hx : Rep (Wof X) ρ H x v) (hy : Rep (Wof X) ρ H y u) (h : isIn x y st = some b) (q : Q (.bl (!b)) H) : OpV X (compareOp .NotIn) v u H Q := by
  have hu1 : X.A.units + 1 < cLine := by omega
  unfold isIn at h
  split at h
  · cases rep_str.mp hy
    split at h
    · cases rep_str.mp hx
      split at h
      · rename_i c e
        cases h
        cases sign_ok e
        exact OpV.of op_notIn_sign ⟨c, _, rfl, rfl, q⟩
      · cases h
    · cases h
  · rename_i ds
    obtain ⟨a, vs, rfl, h1, h2⟩ := rep_tup.mp hy
    split at h
    · rename_i w ws e1 e2
      cases h
      obtain ⟨rfl, f1⟩ := flat_ok e1 hx
      obtain ⟨rfl, f2⟩ := flats_ok e2 h2
      exact OpV.of op_notIn_seq ⟨a, vs, rfl, .inr h1, f1, f2, q⟩
    · cases h
  · split at h
    · rename_i ks e
      obtain ⟨a, ws, rfl, _, h2, h3⟩ := dct_at r hy e
      split at h
      · rename_i k ek
        cases h
        cases key_ok ek hx
        have hv := val_ok k h3
        have hb : (valV ws k).isSome = (valD ks k).isSome := by
          cases hd : valD ks k with
          | none => rw [hd] at hv; rw [hv]; rfl
          | some d =>
            rw [hd] at hv
            obtain ⟨v', e', _⟩ := hv
            rw [e']
            rfl
        intro pins s σ vv uu I r1 r2
        obtain rfl : uu = Value.ref a := r2
        exact d_notIn hu1 I (DGet.k h2) r1 fun s3 I3 => ⟨.bl _, H, I3, rfl, by rw [hb]; exact q⟩
      · cases h
    · rename_i ds e
      obtain ⟨a, vs, rfl, _, h2, h3⟩ := lst_at r hy e
      split at h
      · rename_i w ws e1 e2
        cases h
        obtain ⟨rfl, f1⟩ := flat_ok e1 hx
        obtain ⟨rfl, f2⟩ := flats_ok e2 h3
        exact OpV.of op_notIn_seq ⟨a, vs, rfl, .inl (SqL.of h2), f1, f2, q⟩
      · cases h
    · cases h
  · cases h
theorem out_some {o : Option Bool} (h : PostD (Wof X) E ρ H (outB o st) Q) : ∃ b, o = some b ∧ PostD (Wof X) E ρ H (.ok (.bl b) st) Q := by
  cases o with
  | none => exact h.elim
  | some b => exact ⟨b, rfl, h⟩
theorem cmp_ok {op : CmpOp} (hu : X.A.units + 64 < cLine) (r : Rel (Wof X) ρ st H) (hx : Rep (Wof X) ρ H x v) (hy : Rep (Wof X) ρ H y u) (h : PostD (Wof X) E ρ H (cmpOp op x y st) Q) : OpV X (compareOp op) v u H Q := by
  have fin : ∀ {b : Bool}, PostD (Wof X) E ρ H (.ok (.bl b) st) Q → Q (.bl b) H := fun h => post_same r h (rep_bl.mpr rfl)
  cases op with
  | Eq =>
    obtain ⟨b, e, h⟩ := out_some h
    obtain ⟨p, q, d1, d2, s1, s2, rfl⟩ := eqD_ok r hx hy e
    exact OpV.of (op_eqD hu) ⟨p, q, d1, d2, s1, s2, fin h⟩
  | NotEq =>
    obtain ⟨b, e, h⟩ := out_some h
    cases hq : eqD x y st with
    | none => rw [hq] at e; cases e
    | some c =>
      rw [hq] at e
      cases e
      obtain ⟨p, q, d1, d2, s1, s2, rfl⟩ := eqD_ok r hx hy hq
      exact OpV.of (op_neD hu) ⟨p, q, d1, d2, s1, s2, fin h⟩
  | In =>
    obtain ⟨b, e, h⟩ := out_some h
    exact in_ok hu r hx hy e (fin h)
  | NotIn =>
    obtain ⟨b, e, h⟩ := out_some h
    cases hq : isIn x y st with
    | none => rw [hq] at e; cases e
    | some c =>
      rw [hq] at e
      cases e
      exact notIn_ok hu r hx hy hq (fin h)
  | Is =>
    dsimp only [cmpOp] at h
    split at h
    · cases rep_non.mp hy
      exact OpV.of op_isN ⟨rfl, by rw [non_ok hx]; exact fin h⟩
    · exact h.elim
  | IsNot =>
    dsimp only [cmpOp] at h
    split at h
    · cases rep_non.mp hy
      exact OpV.of op_notN ⟨rfl, by rw [non_ok hx]; exact fin h⟩
    · exact h.elim
  | Lt =>
    dsimp only [cmpOp] at h
    split at h
    · cases rep_int.mp hx; cases rep_int.mp hy
      exact OpV.of op_lt ⟨_, _, rfl, rfl, fin h⟩
    · cases rep_str.mp hx; cases rep_str.mp hy
      exact OpV.of op_lt_str ⟨_, _, rfl, rfl, fin h⟩
    · exact h.elim
  | LtE =>
    dsimp only [cmpOp] at h
    split at h
    · cases rep_int.mp hx; cases rep_int.mp hy
      exact OpV.of op_le ⟨_, _, rfl, rfl, fin h⟩
    · exact h.elim
  | Gt =>
    dsimp only [cmpOp] at h
    split at h
    · cases rep_int.mp hx; cases rep_int.mp hy
      exact OpV.of op_gt ⟨_, _, rfl, rfl, fin h⟩
    · exact h.elim
  | GtE =>
    dsimp only [cmpOp] at h
    split at h
    · cases rep_int.mp hx; cases rep_int.mp hy
      exact OpV.of op_ge ⟨_, _, rfl, rfl, fin h⟩
    · exact h.elim
end
end Dp
set_option Elab.async false
set_option linter.all false
set_option maxRecDepth 100000
set_option maxHeartbeats 4000000
/-! Dp3: places, slices, built-ins and methods by value. -/
namespace Dp
open PySem PySem.Spec PyProof.Rows L2

def IxV (X : Cx) : R2 := fun x y H Q => ∀ (value slice : Expr) (pins : List (Addr × Obj)) (s : Shared) (σ : L2.St) (v u : Value), Inv X pins σ H s → RelV x v → RelV y u →
    subscripted slice false v u = operate [v, u] (getItem v u) → wpAny (model X.prog X.w) X.A (subscriptTail value slice v u) (EP X pins σ Q) X.xe s
theorem ixv {X : Cx} : IxR X (IxV X) := fun a b pins s σ H x y v u Q I r1 r2 h hs => h a b pins s σ v u I r1 r2 hs
theorem IxV.of {X : Cx} {r : R2} (h : IxR X r) {x y : V} {H : Hp} {Q : VK} (q : r x y H Q) : IxV X x y H Q := fun a b pins s σ v u I r1 r2 hs => h a b pins s σ H x y v u Q I r1 r2 q hs
def SlV (X : Cx) : V → Option Int → Option Int → Hp → VK → Prop := fun x lo hi H Q => ∀ (pins : List (Addr × Obj)) (s : Shared) (σ : L2.St) (v vl vu : Value) (sl : Addr), Inv X pins σ H s → RelV x v → s.heap.IsSliceOf sl vl vu .none → IsPart vl lo → IsPart vu hi →
    ∃ T id, typeLookup (.type T) "__getitem__" = pure (some (.builtin id)) ∧ s.TypeIs v T ∧ wpAny (model X.prog X.w) X.A (getItem v (.ref sl)) (EP X pins σ Q) X.xe s
theorem slv {X : Cx} : SlR X (SlV X) := fun pins s σ H x v vl vu lo hi sl Q I r1 h1 h2 h3 h => h pins s σ v vl vu sl I r1 h1 h2 h3
theorem SlV.of {X : Cx} {r : V → Option Int → Option Int → Hp → VK → Prop} (h : SlR X r) {x : V} {lo hi : Option Int} {H : Hp} {Q : VK} (q : r x lo hi H Q) : SlV X x lo hi H Q := fun pins s σ v vl vu sl I r1 h1 h2 h3 => h pins s σ H x v vl vu lo hi sl Q I r1 h1 h2 h3 q
def MtV (X : Cx) (id : String) : V → List V → Hp → VK → Prop := fun x xs H Q => ∀ (pins : List (Addr × Obj)) (s : Shared) (σ : L2.St) (v : Value) (us : List Value), Inv X pins σ H s → RelV x v → Vals xs us → wpAny (model X.prog X.w) X.A (call (.builtin id) (v :: us)) (EP X pins σ Q) X.xe s
theorem mtv {X : Cx} {id : String} : MtR X id (MtV X id) := fun pins s σ H x xs v us Q I r1 r2 h => h pins s σ v us I r1 r2
theorem MtV.of {X : Cx} {id : String} {r : V → List V → Hp → VK → Prop} (h : MtR X id r) {x : V} {xs : List V} {H : Hp} {Q : VK} (q : r x xs H Q) : MtV X id x xs H Q := fun pins s σ v us I r1 r2 => h pins s σ H x xs v us Q I r1 r2 q

/-! ### x[i] -/
def ixL (ds : List D) (y : D) (st : Store) : Out D :=
  match y with
  | .int i => match L2.atI ds i with
    | some d => .ok d st
    | none => .bad
  | _ => .bad
def ixOp (x y : D) (st : Store) : Out D :=
  match x with
  | .ref n => match st[n]? with
    | some (.dct ks) => match keyOf y with
      | some k => match valD ks k with
        | some d => .ok d st
        | none => .bad
      | none => .bad
    | some (.lst ds) => ixL ds y st
    | some (.frz ds) => ixL ds y st
    | none => .bad
  | .tup ds => ixL ds y st
  | .str s => match y with
    | .int i => if s.length ≤ big then match atI s.cps.toList i with
      | some c => .ok (.str ⟨#[c]⟩) st
      | none => .bad else .bad
    | _ => .bad
  | _ => .bad
section
variable {X : Cx} {E : XK} {ρ : List Addr} {H : Hp} {st : Store} {Q : VK} {x y : D} {v u : V}
theorem Reps.atI {W : Wd} {ds : List D} {vs : List V} {i : Int} {d : D} (r : Reps W ρ H ds vs) (h : L2.atI ds i = some d) : ∃ v, L2.atI vs i = some v ∧ Rep W ρ H d v := by
  unfold L2.atI at h ⊢
  rw [r.length]
  cases e : ixN ds.length i with
  | none => rw [e] at h; cases h
  | some j =>
    rw [e] at h
    exact r.get h
theorem ixL_ok {n : Nat} {ds : List D} (r : Rel (Wof X) ρ st H) (hx : Rep (Wof X) ρ H (.ref n) v) (hy : Rep (Wof X) ρ H y u) (ei : (st[n]?).bind Cell.items = some ds) (h : PostD (Wof X) E ρ H (ixL ds y st) Q) : IxV X v u H Q := by
  obtain ⟨a, vs, rfl, h1, h2⟩ := itm_at r hx ei
  unfold ixL at h
  split at h
  · rename_i i
    cases rep_int.mp hy
    split at h
    · rename_i d e
      obtain ⟨w, e', hw⟩ := h2.atI e
      exact IxV.of ix_list ⟨a, vs, i, w, rfl, rfl, h1, e', post_same r h hw⟩
    · exact h.elim
  · exact h.elim
theorem ix_ok (hu : X.A.units + 64 < cLine) (r : Rel (Wof X) ρ st H) (hx : Rep (Wof X) ρ H x v) (hy : Rep (Wof X) ρ H y u) (h : PostD (Wof X) E ρ H (ixOp x y st) Q) : IxV X v u H Q := by
  have hu1 : X.A.units + 1 < cLine := by omega
  cases x with
  | ref n =>
    dsimp only [ixOp] at h
    cases hc : st[n]? with
    | none => rw [hc] at h; exact h.elim
    | some c =>
      rw [hc] at h
      cases c with
      | lst ds => exact ixL_ok r hx hy (by rw [hc]; rfl) h
      | frz ds => exact ixL_ok r hx hy (by rw [hc]; rfl) h
      | dct ks =>
        dsimp only at h
        split at h
        · rename_i k ek
          split at h
          · rename_i d ed
            obtain ⟨a, ws, rfl, _, h2, h3⟩ := dct_at r hx hc
            cases key_ok ek hy
            have hv := val_ok k h3
            rw [ed] at hv
            obtain ⟨w, ew, hw⟩ := hv
            have hg : DGet H a (kV k) (some w) := by rw [← ew]; exact DGet.k h2
            intro value slice pins s σ vv uu I r1 r2 hs
            obtain rfl : vv = Value.ref a := r1
            exact tail_any (dict_typeIs I hg) PySem.F.slot_dict_getitem.lookup (d_getItem hu1 I hg r2 fun w' s3 I3 rw' => ⟨w, H, I3, rw', post_same r h hw⟩) hs
          · exact h.elim
        · exact h.elim
  | tup ds =>
    dsimp only [ixOp] at h
    unfold ixL at h
    split at h
    · rename_i i
      cases rep_int.mp hy
      obtain ⟨a, vs, rfl, h1, h2⟩ := rep_tup.mp hx
      split at h
      · rename_i d e
        obtain ⟨w, e', hw⟩ := h2.atI e
        exact IxV.of ix_tup ⟨a, vs, i, w, rfl, rfl, h1, e', post_same r h hw⟩
      · exact h.elim
    · exact h.elim
  | str s =>
    dsimp only [ixOp] at h
    split at h
    · rename_i i
      cases rep_int.mp hy
      cases rep_str.mp hx
      split at h
      · rename_i hz
        split at h
        · rename_i c e
          exact IxV.of ix_str ⟨s, i, c, rfl, rfl, sz_big hz, e, post_same r h (rep_str.mpr rfl)⟩
        · exact h.elim
      · exact h.elim
    · exact h.elim
  | _ => exact h.elim
end

/-! ### x[lo:hi] -/
def cutD (xs : List D) (lo hi : Option Int) : List D := (xs.drop (HT.sIx xs.length 0 lo)).take (HT.sIx xs.length xs.length hi - HT.sIx xs.length 0 lo)
def slOp (x : D) (lo hi : Option Int) (st : Store) : Out D :=
  match x with
  | .ref n => match (st[n]?).bind Cell.items with
    | some ds => .ok (.ref st.length) (st.push (.lst (cutD ds lo hi)))
    | none => .bad
  | .tup ds => .ok (.tup (cutD ds lo hi)) st
  | .rl ds => .ok (.ref st.length) (st.push (.lst (cutD ds lo hi)))
  | _ => .bad
section
variable {X : Cx} {E : XK} {ρ : List Addr} {H : Hp} {st : Store} {Q : VK} {x y : D} {v u : V}
theorem Reps.cut {W : Wd} {ds : List D} {vs : List V} {lo hi : Option Int} (r : Reps W ρ H ds vs) : Reps W ρ H (cutD ds lo hi) (cutV vs lo hi) := by
  unfold cutD cutV
  rw [r.length]
  exact Reps.take _ (Reps.drop _ r)
theorem sl_ok {lo hi : Option Int} (r : Rel (Wof X) ρ st H) (hx : Rep (Wof X) ρ H x v) (h : PostD (Wof X) E ρ H (slOp x lo hi st) Q) : SlV X v lo hi H Q := by
  cases x with
  | ref n =>
    dsimp only [slOp] at h
    split at h
    · rename_i ds e
      obtain ⟨a, vs, rfl, h1, h2⟩ := itm_at r hx e
      exact SlV.of sl_list ⟨a, vs, rfl, h1, post_lst r h h2.cut⟩
    · exact h.elim
  | tup ds =>
    dsimp only [slOp] at h
    obtain ⟨a, vs, rfl, h1, h2⟩ := rep_tup.mp hx
    refine SlV.of sl_tupA ⟨a, vs, rfl, h1, fun ⟨e1, e2⟩ => ?_, fun _ => post_tup r h h2.cut⟩
    have ec : cutD ds lo hi = ds := by
      unfold cutD
      rw [← h2.length, e1, e2, List.drop_zero, Nat.sub_zero, h2.length, List.take_length]
    rw [ec] at h
    exact post_same r h (rep_tup.mpr ⟨a, vs, rfl, h1, h2⟩)
  | rl ds =>
    dsimp only [slOp] at h
    obtain ⟨a, vs, rfl, h1, h2⟩ := rep_rl.mp hx
    exact SlV.of sl_list ⟨a, vs, rfl, h1.sql, post_lst r h h2.cut⟩
  | _ => exact h.elim
end

/-! ### isinstance -/
def tyOf (st : Store) : D → Option Ty
  | .non => some .none
  | .bl _ => some .bool
  | .int _ => some .int
  | .str _ => some .str
  | .tup _ => some .tuple
  | .ref n => match st[n]? with
    | some (.lst _) => some .list
    | some (.frz _) => some .list
    | some (.dct _) => some .dict
    | none => none
  | _ => none
def isi (t u : Ty) : Bool := decide (t = u) || (decide (t = .bool) && decide (u = .int))
theorem isi_ok {K : PySem.W.Frag} (t u : Ty) : PySem.W.kitOne K (.type t.name) (.type u.name) = some (isi t u) := by
  refine kit_ty ?_
  cases t <;> cases u <;> decide +kernel
theorem ty_ok {X : Cx} {ρ : List Addr} {H : Hp} {st : Store} {d : D} {v : V} {t : Ty} (r : Rel (Wof X) ρ st H) (hd : Rep (Wof X) ρ H d v) (h : tyOf st d = some t) : TyX X.K H v (.type t.name) := by
  unfold tyOf at h
  split at h
  · cases h; cases rep_non.mp hd; exact .base .non
  · cases h; cases rep_bl.mp hd; exact .base (.bl _)
  · cases h; cases rep_int.mp hd; exact .base (.int _)
  · cases h; cases rep_str.mp hd; exact .base (.str _)
  · cases h
    obtain ⟨a, vs, rfl, h1, h2⟩ := rep_tup.mp hd
    rcases h1 with (h1 | ⟨o, h1⟩) | ⟨o, its, n, h1, h2, _⟩
    · exact .base (.tup h1)
    · exact .fTuple h1
    · exact .kTuple h1 h2
  · rename_i n
    obtain ⟨a, rfl, h1⟩ := rep_ref.mp hd
    split at h
    · rename_i e
      cases h
      obtain ⟨vs, h2, _⟩ := r.cell n a _ h1 e
      exact .base (.lst h2)
    · rename_i e
      cases h
      obtain ⟨vs, o, h2, _⟩ := r.cell n a _ h1 e
      exact .base (.frz h2)
    · rename_i e
      cases h
      obtain ⟨vs, h2, _⟩ := r.cell n a _ h1 e
      exact .base (.dK h2)
    · cases h
  · cases h
def tysOf : List D → Option (List Ty)
  | [] => some []
  | .ty t :: ds => (tysOf ds).map (t :: ·)
  | _ :: _ => none
theorem tys_ok {W : Wd} {ρ : List Addr} {H : Hp} : ∀ {ds : List D} {vs : List V} {ts : List Ty}, tysOf ds = some ts → Reps W ρ H ds vs → Paired ClsV vs (ts.map fun t => Value.type t.name)
  | [], vs, ts, h, r => by
    simp only [Reps] at r
    subst r
    cases h
    exact .nil
  | d :: ds, vs, ts, h, r => by
    simp only [Reps] at r
    obtain ⟨v, w, rfl, r1, r2⟩ := r
    cases d with
    | ty t =>
      dsimp only [tysOf] at h
      cases e : tysOf ds with
      | none => rw [e] at h; cases h
      | some us =>
        rw [e] at h
        cases h
        cases rep_ty.mp r1
        exact .cons (.ty _) (tys_ok e r2)
    | _ => cases h
theorem any_isi {K : PySem.W.Frag} (t : Ty) : ∀ ts : List Ty, PySem.W.kitAny K (.type t.name) (ts.map fun u => Value.type u.name) = some (ts.any (isi t))
  | [] => rfl
  | u :: ts => by
    rw [List.map_cons, List.any_cons]
    refine kitAny_cons (isi_ok t u) (fun e => ?_) fun e => by rw [e]; rfl
    rw [e, Bool.false_or]
    exact any_isi t ts

/-! ### sorting -/
def ins {α : Type} (le : α → α → Bool) (x : α) : List α → List α
  | [] => [x]
  | y :: ys => if le x y then x :: y :: ys else y :: ins le x ys
def isort {α : Type} (le : α → α → Bool) : List α → List α
  | [] => []
  | x :: xs => ins le x (isort le xs)
section
variable {α : Type} {le : α → α → Bool}
theorem ins_mem {x z : α} : ∀ {l : List α}, z ∈ ins le x l → z = x ∨ z ∈ l
  | [], h => .inl (by simpa [ins] using h)
  | y :: ys, h => by
    unfold ins at h
    split at h
    · rcases List.mem_cons.mp h with h | h
      · exact .inl h
      · exact .inr h
    · rcases List.mem_cons.mp h with h | h
      · exact .inr (by rw [h]; exact List.mem_cons_self)
      · rcases ins_mem h with h | h
        · exact .inl h
        · exact .inr (List.mem_cons_of_mem _ h)
theorem ins_sorted (t : PySem.W.TotalLe le) (x : α) : ∀ {l : List α}, l.Pairwise (fun a b => le a b = true) → (ins le x l).Pairwise (fun a b => le a b = true)
  | [], _ => by simp [ins]
  | y :: ys, h => by
    unfold ins
    rw [List.pairwise_cons] at h
    split
    · rename_i hxy
      refine List.pairwise_cons.mpr ⟨fun z hz => ?_, List.pairwise_cons.mpr h⟩
      rcases List.mem_cons.mp hz with e | hz
      · rw [e]; exact hxy
      · exact t.trans _ _ _ hxy (h.1 z hz)
    · rename_i hxy
      have hyx : le y x = true := (t.total x y).elim (fun e => absurd e hxy) id
      refine List.pairwise_cons.mpr ⟨fun z hz => ?_, ins_sorted t x h.2⟩
      rcases ins_mem hz with e | hz
      · rw [e]; exact hyx
      · exact h.1 z hz
theorem isort_sorted (t : PySem.W.TotalLe le) : ∀ l : List α, (isort le l).Pairwise (fun a b => le a b = true)
  | [] => List.Pairwise.nil
  | x :: xs => ins_sorted t x (isort_sorted t xs)
theorem ins_rank (t : PySem.W.TotalLe le) (c x : α) : ∀ l : List α, (ins le x l).filter (PySem.W.sameRank le c) = (x :: l).filter (PySem.W.sameRank le c)
  | [] => rfl
  | y :: ys => by
    unfold ins
    split
    · rfl
    · rename_i hxy
      have hyx : le y x = true := (t.total x y).elim (fun e => absurd e hxy) id
      have ih := ins_rank t c x ys
      cases hx : PySem.W.sameRank le c x with
      | false =>
        have hx' : ¬ PySem.W.sameRank le c x = true := by rw [hx]; exact Bool.false_ne_true
        rw [List.filter_cons_of_neg hx'] at ih ⊢
        rw [List.filter_cons, List.filter_cons, ih]
      | true =>
        have hy : ¬ PySem.W.sameRank le c y = true := fun hy => by
          unfold PySem.W.sameRank at hx hy
          rw [Bool.and_eq_true] at hx hy
          exact hxy (t.trans _ _ _ hx.2 hy.1)
        rw [List.filter_cons_of_neg hy, ih, List.filter_cons_of_pos hx, List.filter_cons_of_pos hx, List.filter_cons_of_neg hy]
theorem isort_rank (t : PySem.W.TotalLe le) (c : α) : ∀ l : List α, (isort le l).filter (PySem.W.sameRank le c) = l.filter (PySem.W.sameRank le c)
  | [] => rfl
  | x :: xs => by
    show (ins le x (isort le xs)).filter _ = _
    rw [ins_rank t c x (isort le xs), List.filter_cons, List.filter_cons, isort_rank t c xs]
theorem isort_eq (t : PySem.W.TotalLe le) (l : List α) : isort le l = l.mergeSort le := PySem.W.sort_unique t (isort_sorted t l) fun c => isort_rank t c l
end
def allAlike (ds : List PyData) : Bool := ds.all fun d => ds.all fun e => PySem.W.alike d e
def sortableB (ds : List PyData) : Bool := (ds.all fun | .tuple (_ :: _) => true | _ => false) || (ds.all fun | .none => false | .tuple _ => false | _ => true)
theorem alike_ok {ds : List PyData} (h : allAlike ds = true) : PySem.W.AllAlike ds := fun d hd e he => List.all_eq_true.mp (List.all_eq_true.mp h d hd) e he
theorem sortable_ok {ds : List PyData} (h : sortableB ds = true) : PySem.W.Sortable ds := by
  unfold sortableB at h
  rw [Bool.or_eq_true] at h
  rcases h with h | h
  · refine .inl fun d hd => ?_
    have := List.all_eq_true.mp h d hd
    split at this
    · exact ⟨_, _, rfl⟩
    · cases this
  · refine .inr fun d hd => ?_
    have := List.all_eq_true.mp h d hd
    constructor
    · rintro rfl; cases this
    · rintro xs rfl; cases this
def sortD (st : Store) (ds : List D) : Option (List D) :=
  match pyL (pyOf deep st) ds with
  | some ps => if allAlike ps && sortableB ps && ps.all (fun p => decide (p.depth ≤ 64)) && decide (ds.length ≤ big) then some ((isort (PySem.W.dataLe false Prod.snd) (ds.zip ps)).map Prod.fst) else none
  | none => none
end Dp
set_option Elab.async false
set_option linter.all false
set_option maxRecDepth 100000
set_option maxHeartbeats 4000000
/-! Dp4: calls of built-ins and methods by value. -/
namespace Dp
open PySem PySem.Spec PyProof.Rows L2

def boolsOf : List D → Option (List Bool)
  | [] => some []
  | .bl b :: ds => (boolsOf ds).map (b :: ·)
  | _ :: _ => none
def itemsOf (st : Store) : D → Option (List D)
  | .tup ds => some ds
  | .ref n => (st[n]?).bind Cell.items
  | .rl ds => some ds
  | _ => none
def pairsOf : List D → Option (List (Key × D))
  | [] => some []
  | .tup [k, d] :: ds => match keyOf k, pairsOf ds with
    | some k, some r => some ((k, d) :: r)
    | _, _ => none
  | _ :: _ => none
def mergeD (kvs more : List (Key × D)) : List (Key × D) := more.foldl (fun acc kv => putD acc kv.1 kv.2) kvs
/-- the built-in functions and classes by name -/
inductive Bi where
  | len | abs | min | max | any | all | isinstance | sorted | int | tuple | list | dict
  deriving DecidableEq
def Bi.val : Bi → Value
  | .len => .builtin "len" | .abs => .builtin "abs" | .min => .builtin "min" | .max => .builtin "max" | .any => .builtin "any" | .all => .builtin "all"
  | .isinstance => .builtin "isinstance" | .sorted => .builtin "sorted" | .int => .type "int" | .tuple => .type "tuple" | .list => .type "list" | .dict => .type "dict"
def callOp (f : Bi) (args : List D) (st : Store) : Out D :=
  match f, args with
  | .len, [d] => match d with
    | .str s => if s.length ≤ big then .ok (.int s.length) st else .bad
    | d => match itemsOf st d with
      | some ds => .ok (.int ds.length) st
      | none => .bad
  | .abs, [.int i] => .ok (.int (if i < 0 then -i else i)) st
  | .min, [.int i, .int j] => .ok (.int (if j < i then j else i)) st
  | .max, [.int i, .int j] => .ok (.int (if j > i then j else i)) st
  | .any, [.ref n] => match ((st[n]?).bind Cell.items).bind boolsOf with
    | some bs => .ok (.bl (bs.any id)) st
    | none => .bad
  | .all, [.ref n] => match ((st[n]?).bind Cell.items).bind boolsOf with
    | some bs => .ok (.bl (bs.all id)) st
    | none => .bad
  | .isinstance, [d, .ty u] => match tyOf st d with
    | some t => .ok (.bl (isi t u)) st
    | none => .bad
  | .isinstance, [d, .tup us] => match tyOf st d, tysOf us with
    | some t, some ts => .ok (.bl (ts.any (isi t))) st
    | _, _ => .bad
  | .sorted, [.ref n] => match ((st[n]?).bind Cell.items).bind (sortD st) with
    | some ds => .ok (.ref st.length) (st.push (.lst ds))
    | none => .bad
  | .int, [.int i] => .ok (.int i) st
  | .int, [.bl b] => .ok (.int (if b then 1 else 0)) st
  | .tuple, [d] => match itemsOf st d with
    | some ds => .ok (.tup ds) st
    | none => .bad
  | .list, [d] => match itemsOf st d with
    | some ds => .ok (.ref st.length) (st.push (.lst ds))
    | none => .bad
  | .dict, [.ref n] => match ((st[n]?).bind Cell.items).bind pairsOf with
    | some kvs => .ok (.ref st.length) (st.push (.dct (mergeD [] kvs)))
    | none => .bad
  | _, _ => .bad

section
variable {W : Wd} {ρ : List Addr} {H : Hp} {st : Store}
theorem bools_ok : ∀ {ds : List D} {vs : List V} {bs : List Bool}, boolsOf ds = some bs → Reps W ρ H ds vs → vs = bs.map V.bl
  | [], vs, bs, h, r => by
    simp only [Reps] at r
    subst r
    cases h
    rfl
  | d :: ds, vs, bs, h, r => by
    simp only [Reps] at r
    obtain ⟨v, w, rfl, r1, r2⟩ := r
    cases d with
    | bl b =>
      dsimp only [boolsOf] at h
      cases e : boolsOf ds with
      | none => rw [e] at h; cases h
      | some cs =>
        rw [e] at h
        cases h
        cases rep_bl.mp r1
        rw [bools_ok e r2]
        rfl
    | _ => cases h
theorem items_ok {d : D} {v : V} {ds : List D} (r : Rel W ρ st H) (hd : Rep W ρ H d v) (h : itemsOf st d = some ds) : ∃ a vs, v = .ref a ∧ (SqL W.K H a vs ∨ SqT W.K H a vs) ∧ Reps W ρ H ds vs := by
  unfold itemsOf at h
  split at h
  · cases h
    obtain ⟨a, vs, rfl, h1, h2⟩ := rep_tup.mp hd
    exact ⟨a, vs, rfl, .inr h1, h2⟩
  · obtain ⟨a, vs, rfl, h1, h2⟩ := itm_at r hd h
    exact ⟨a, vs, rfl, .inl h1, h2⟩
  · cases h
    obtain ⟨a, vs, rfl, h1, h2⟩ := rep_rl.mp hd
    exact ⟨a, vs, rfl, .inl h1.sql, h2⟩
  · cases h
theorem pairs_ok : ∀ {ds : List D} {vs : List V} {ks : List (Key × D)}, pairsOf ds = some ks → Reps W ρ H ds vs → ∃ (ps : List Addr) (ws : List (Key × V)), vs = ps.map V.ref ∧ KReps W ρ H ks ws ∧ Paired (fun p kv => SqT W.K H p [kV kv.1, kv.2]) ps ws
  | [], vs, ks, h, r => by
    simp only [Reps] at r
    subst r
    cases h
    exact ⟨[], [], rfl, by simp only [KReps], .nil⟩
  | d :: ds, vs, ks, h, r => by
    simp only [Reps] at r
    obtain ⟨v, w, rfl, r1, r2⟩ := r
    unfold pairsOf at h
    split at h
    · rename_i e0
      cases e0
    · rename_i k0 d0 ds' e0
      cases e0
      split at h
      · rename_i k r' ek er
        cases h
        obtain ⟨ps, ws, rfl, h2, h3⟩ := pairs_ok er r2
        obtain ⟨a, us, rfl, h4, h5⟩ := rep_tup.mp r1
        simp only [Reps] at h5
        obtain ⟨x, t, rfl, hx, y, t', rfl, hy, rfl⟩ := h5
        cases key_ok ek hx
        refine ⟨a :: ps, (k, y) :: ws, rfl, ?_, .cons h4 h3⟩
        simp only [KReps]
        exact ⟨y, ws, rfl, hy, h2⟩
      · cases h
    · cases h
theorem merge_ok : ∀ {more : List (Key × D)} {ws : List (Key × V)} {ks : List (Key × D)} {us : List (Key × V)}, KReps W ρ H more ws → KReps W ρ H ks us → KReps W ρ H (mergeD ks more) (mergeK us ws)
  | [], ws, ks, us, h, g => by
    simp only [KReps] at h
    subst h
    exact g
  | (k, d) :: more, ws, ks, us, h, g => by
    simp only [KReps] at h
    obtain ⟨v, w, rfl, r1, r2⟩ := h
    show KReps W ρ H (mergeD (putD ks k d) more) (mergeK (putK us k v) w)
    exact merge_ok r2 (put_ok r1 g)
theorem sort_rel {vs : List V} {its : List Value} {ds : List D} {ps : List PyData} (rv : Vals vs its) (rd : Reps W ρ H ds vs) (rp : L2.DpAll W.K H vs ps) : PySem.W.EachIs (fun u (b : D × PyData) => ∃ x, RelV x u ∧ Rep W ρ H b.1 x ∧ L2.Dp W.K H x b.2) its (ds.zip ps) := by
  induction rv generalizing ds ps with
  | nil =>
    cases rp
    have : ds = [] := by
      have := rd.length
      cases ds with
      | nil => rfl
      | cons _ _ => simp at this
    subst this
    exact .nil
  | @cons x u xs us h t ih =>
    cases rp with
    | cons h1 h2 =>
      cases ds with
      | nil => simp only [Reps] at rd; cases rd
      | cons d ds =>
        simp only [Reps] at rd
        obtain ⟨v, w, e, r1, r2⟩ := rd
        cases e
        exact .cons ⟨x, h, r1, h1⟩ (ih r2 h2)
theorem each_back : ∀ {out : List Value} {bs : List (D × PyData)}, PySem.W.EachIs (fun u (b : D × PyData) => ∃ x, RelV x u ∧ Rep W ρ H b.1 x ∧ L2.Dp W.K H x b.2) out bs → ∃ xs, Vals xs out ∧ Reps W ρ H (bs.map Prod.fst) xs
  | [], _, .nil => ⟨[], .nil, Reps.nil⟩
  | u :: us, b :: bs, .cons ⟨x, h1, h2, _⟩ t => by
    obtain ⟨xs, g1, g2⟩ := each_back t
    exact ⟨x :: xs, .cons h1 g1, Reps.cons h2 g2⟩
theorem pyL_len {f : D → Option PyData} : ∀ {ds : List D} {ps : List PyData}, pyL f ds = some ps → ps.length = ds.length
  | [], ps, h => by cases h; rfl
  | d :: ds, ps, h => by
    unfold pyL at h
    split at h
    · rename_i p qs e1 e2
      cases h
      rw [List.length_cons, List.length_cons, pyL_len e2]
    · cases h
end
theorem zip_snd {α β : Type} : ∀ {xs : List α} {ys : List β}, ys.length = xs.length → (xs.zip ys).map Prod.snd = ys
  | [], [], _ => rfl
  | x :: xs, y :: ys, h => by
    rw [List.zip_cons_cons, List.map_cons, zip_snd (by simpa using h)]
  | [], y :: ys, h => by simp at h
  | x :: xs, [], h => by simp at h

section
variable {X : Cx} {E : XK} {ρ : List Addr} {H : Hp} {st : Store} {Q : VK}
theorem sorted_ok {n : Nat} {v : V} {ds es : List D} (hu : X.A.units + 200 < cLine) (r : Rel (Wof X) ρ st H) (hx : Rep (Wof X) ρ H (.ref n) v) (ei : (st[n]?).bind Cell.items = some ds) (hs : sortD st ds = some es) (h : PostD (Wof X) E ρ H (.ok (.ref st.length) (st.push (.lst es))) Q) : CallV X (.builtin "sorted") [v] H Q := by
  obtain ⟨a, vs, rfl, h1, h2⟩ := itm_at r hx ei
  unfold sortD at hs
  split at hs
  · rename_i ps ep
    split at hs
    · rename_i hc
      cases hs
      simp only [Bool.and_eq_true, decide_eq_true_eq] at hc
      obtain ⟨⟨⟨c1, c2⟩, c3⟩, c4⟩ := hc
      intro pins s σ us I rv
      obtain ⟨its, rv2, hl, hz⟩ := I.list h1
      rw [Vals.ref1 rv]
      have rp := pyL_ok (fun d p w e q => pyOf_ok r deep d p w e q) ep h2
      have each := sort_rel rv2 h2 rp
      have e2 : (ds.zip ps).map Prod.snd = ps := zip_snd (pyL_len ep)
      refine PySem.W.sorted_data (bs := ds.zip ps) (enc := Prod.snd) hl.isList each (each.mono fun u b ⟨x, q1, q2, q3⟩ => L2.Dp.reads I b.2 x u q3 q1) (by rw [e2]; exact alike_ok c1) (by rw [e2]; exact sortable_ok c2)
        (by rw [List.length_zip]; exact Nat.le_trans (Nat.min_le_left _ _) (sz_big c4)) (fun b hb => ?_) fun out hlen hout => ?_
      · have hb2 : b.2 ∈ ps := by rw [← e2]; exact List.mem_map.mpr ⟨b, hb, rfl⟩
        have := of_decide_eq_true (List.all_eq_true.mp c3 _ hb2)
        omega
      · have hq : (ds.zip ps).mergeSort (PySem.W.dataLe false Prod.snd) = isort (PySem.W.dataLe false Prod.snd) (ds.zip ps) := (isort_eq (PySem.W.sortLe_total _ _ _) _).symm
        rw [hq] at hout
        obtain ⟨xs, g1, g2⟩ := each_back hout
        obtain ⟨en, he'⟩ := PyProof.Rows.sortedAll_at s.heap its out.toArray
        have hxl : xs.length ≤ sizeLine := by
          rw [g1.length, hlen, List.length_zip]
          exact Nat.le_trans (Nat.min_le_left _ _) (sz_big c4)
        have hfree := I.hok.fresh (Nat.le_succ s.heap.objs.size)
        exact ⟨.ref _, upd H (s.heap.objs.size + 1) (.lst xs), I.laid (t' := s.toks) (fun _ _ => PyProof.Rows.sortedAll_old) (Nat.le_succ _) ⟨hxl, out, en, g1, he'⟩, rfl, post_lst r h g2 _ hfree⟩
    · cases hs
  · cases hs
theorem call_ok {f : Bi} {args : List D} {vs : List V} (hc : X.calm = true) (hu : X.A.units + 200 < cLine) (r : Rel (Wof X) ρ st H) (ha : Reps (Wof X) ρ H args vs) (h : PostD (Wof X) E ρ H (callOp f args st) Q) : CallV X f.val vs H Q := by
  have one : ∀ {d : D}, args = [d] → ∃ v, vs = [v] ∧ Rep (Wof X) ρ H d v := fun {d} e => by
    subst e
    simp only [Reps] at ha
    obtain ⟨v, t, rfl, h1, rfl⟩ := ha
    exact ⟨v, rfl, h1⟩
  have two : ∀ {d e : D}, args = [d, e] → ∃ v w, vs = [v, w] ∧ Rep (Wof X) ρ H d v ∧ Rep (Wof X) ρ H e w := fun {d e} z => by
    subst z
    simp only [Reps] at ha
    obtain ⟨v, t, rfl, h1, w, t', rfl, h2, rfl⟩ := ha
    exact ⟨v, w, rfl, h1, h2⟩
  unfold callOp at h
  split at h
  · rename_i d
    obtain ⟨v, rfl, hd⟩ := one rfl
    split at h
    · rename_i s
      cases rep_str.mp hd
      split at h
      · rename_i hz
        exact CallV.of call_len_str ⟨s, rfl, sz_big hz, post_same r h (rep_int.mpr rfl)⟩
      · exact h.elim
    · split at h
      · rename_i ds e
        obtain ⟨a, ws, rfl, h1, h2⟩ := items_ok r hd e
        exact CallV.of call_len_seq ⟨a, ws, rfl, h1, by rw [h2.length]; exact post_same r h (rep_int.mpr rfl)⟩
      · exact h.elim
  · obtain ⟨v, rfl, hd⟩ := one rfl
    cases rep_int.mp hd
    exact CallV.of call_abs ⟨_, rfl, post_same r h (rep_int.mpr rfl)⟩
  · obtain ⟨v, w, rfl, h1, h2⟩ := two rfl
    cases rep_int.mp h1; cases rep_int.mp h2
    exact CallV.of (call_min2 hc) ⟨_, _, rfl, post_same r h (rep_int.mpr rfl)⟩
  · obtain ⟨v, w, rfl, h1, h2⟩ := two rfl
    cases rep_int.mp h1; cases rep_int.mp h2
    exact CallV.of (call_max2 hc) ⟨_, _, rfl, post_same r h (rep_int.mpr rfl)⟩
  · rename_i n
    obtain ⟨v, rfl, hd⟩ := one rfl
    split at h
    · rename_i bs e
      cases ei : (st[n]?).bind Cell.items with
      | none => rw [ei] at e; cases e
      | some ds =>
        rw [ei] at e
        obtain ⟨a, ws, rfl, h1, h2⟩ := itm_at r hd ei
        cases bools_ok e h2
        exact CallV.of (cr_any hc) ⟨a, bs, rfl, h1, post_same r h (rep_bl.mpr rfl)⟩
    · exact h.elim
  · rename_i n
    obtain ⟨v, rfl, hd⟩ := one rfl
    split at h
    · rename_i bs e
      cases ei : (st[n]?).bind Cell.items with
      | none => rw [ei] at e; cases e
      | some ds =>
        rw [ei] at e
        obtain ⟨a, ws, rfl, h1, h2⟩ := itm_at r hd ei
        cases bools_ok e h2
        exact CallV.of (cr_all hc) ⟨a, bs, rfl, h1, post_same r h (rep_bl.mpr rfl)⟩
    · exact h.elim
  · rename_i d u
    obtain ⟨v, w, rfl, h1, h2⟩ := two rfl
    cases rep_ty.mp h2
    split at h
    · rename_i t e
      exact CallV.of call_isi ⟨v, _, _, _, _, rfl, .ty _, ty_ok r h1 e, isi_ok t u, post_same r h (rep_bl.mpr rfl)⟩
    · exact h.elim
  · rename_i d us
    obtain ⟨v, w, rfl, h1, h2⟩ := two rfl
    obtain ⟨tp, cs, rfl, hT, hcs⟩ := rep_tup.mp h2
    split at h
    · rename_i t ts e1 e2
      have ty := ty_ok r h1 e1
      have k := tys_ok e2 hcs
      have q := post_same r h (rep_bl.mpr rfl)
      intro pins s σ zs I rz
      obtain ⟨u1, u2, rfl, r1, r2⟩ := vals2 rz
      cases (show u2 = Value.ref tp from r2)
      obtain ⟨P, Z, p, hx⟩ := kit_of I r1 ty
      obtain ⟨its, rv, ⟨o, g1, g2, n, g3⟩, _⟩ := I.tuple hT
      have e3 := ClsV.all k rv
      subst e3
      obtain ⟨oc, od, dt, sl⟩ := o
      simp only at g2 g3
      subst g2 g3
      exact PySem.W.kia_tup Z I.kIn p g1 (any_isi t ts) hx fun tk => ⟨.bl _, H, I.tok tk, rfl, q⟩
    · exact h.elim
  · rename_i n
    obtain ⟨v, rfl, hd⟩ := one rfl
    split at h
    · rename_i es e
      cases ei : (st[n]?).bind Cell.items with
      | none => rw [ei] at e; cases e
      | some ds =>
        rw [ei] at e
        exact sorted_ok hu r hd ei e h
    · exact h.elim
  · obtain ⟨v, rfl, hd⟩ := one rfl
    cases rep_int.mp hd
    exact CallV.of call_int1 (.inl ⟨_, rfl, post_same r h (rep_int.mpr rfl)⟩)
  · obtain ⟨v, rfl, hd⟩ := one rfl
    cases rep_bl.mp hd
    exact CallV.of call_int1 (.inr ⟨_, rfl, post_same r h (rep_int.mpr rfl)⟩)
  · rename_i d
    obtain ⟨v, rfl, hd⟩ := one rfl
    split at h
    · rename_i ds e
      obtain ⟨a, ws, rfl, h1, h2⟩ := items_ok r hd e
      refine CallV.of call_tuple_of ⟨a, ws, rfl, ?_⟩
      rcases h1 with h1 | h1
      · exact .inl ⟨h1, post_tup r h h2⟩
      · exact .inr ⟨h1, post_same r h (rep_tup.mpr ⟨a, ws, rfl, h1, h2⟩)⟩
    · exact h.elim
  · rename_i d
    obtain ⟨v, rfl, hd⟩ := one rfl
    split at h
    · rename_i ds e
      obtain ⟨a, ws, rfl, h1, h2⟩ := items_ok r hd e
      exact CallV.of call_list_of ⟨a, ws, rfl, h1, post_lst r h h2⟩
    · exact h.elim
  · rename_i n
    obtain ⟨v, rfl, hd⟩ := one rfl
    split at h
    · rename_i kvs e
      cases ei : (st[n]?).bind Cell.items with
      | none => rw [ei] at e; cases e
      | some ds =>
        rw [ei] at e
        obtain ⟨a, ws, rfl, h1, h2⟩ := itm_at r hd ei
        obtain ⟨ps, us, rfl, h3, h4⟩ := pairs_ok e h2
        exact CallV.of (call_dictP hc) ⟨a, ps, us, rfl, h1, h4, post_dct r h (merge_ok h3 (by simp only [KReps]))⟩
    · exact h.elim
  · exact h.elim

/-! ### methods -/
inductive Me where
  | append | pop | split
  deriving DecidableEq
def Me.name : Me → Str
  | .append => "append" | .pop => "pop" | .split => "split"
def Me.id : Me → String
  | .append => "list.append" | .pop => "list.pop" | .split => "str.split"
def Me.ty : Me → String
  | .append => "list" | .pop => "list" | .split => "str"
def meOp (f : Me) (x : D) (args : List D) (st : Store) : Out D :=
  match f, x, args with
  | .append, .ref n, [d] => match st[n]? with
    | some (.lst ds) => if ds.length < big then .ok .non (st.set n (.lst (ds ++ [d]))) else .bad
    | _ => .bad
  | .pop, .ref n, [.int i] => match st[n]? with
    | some (.lst ds) => if -(2 ^ 63) ≤ i ∧ i < 2 ^ 63 then match seqIndex? i ds.length with
      | some k => match ds[k]? with
        | some d => .ok d (st.set n (.lst (ds.eraseIdx k)))
        | none => .bad
      | none => .bad else .bad
    | _ => .bad
  | .split, .str a, [.str b] => if (b.length == 0) = false ∧ a.length + 2 ≤ big then .ok (.ref st.length) (st.push (.lst ((Txt.split a b).map D.str))) else .bad
  | _, _, _ => .bad
def meTy (f : Me) (x : D) (st : Store) : Bool :=
  match f, x with
  | .split, .str _ => true
  | .split, _ => false
  | _, .ref n => match (st[n]?).bind Cell.items with
    | some _ => true
    | none => false
  | _, _ => false
theorem meTy_ok {f : Me} {x : D} {v : V} (r : Rel (Wof X) ρ st H) (hx : Rep (Wof X) ρ H x v) (h : meTy f x st = true) : tyV X.K f.ty v H := by
  unfold meTy at h
  split at h
  · cases rep_str.mp hx; rfl
  · cases h
  · rename_i n hn
    split at h
    · rename_i ds e
      obtain ⟨a, vs, rfl, h1, h2⟩ := itm_at r hx e
      cases f with
      | append => exact .inl ⟨rfl, vs, h1⟩
      | pop => exact .inl ⟨rfl, vs, h1⟩
      | split => exact absurd rfl hn
    · cases h
  · cases h
theorem reps_strs {W : Wd} : ∀ ys : List Str, Reps W ρ H (ys.map D.str) (ys.map V.str)
  | [] => Reps.nil
  | y :: ys => Reps.cons (rep_str.mpr rfl) (reps_strs ys)
theorem wr_lst {n : Nat} {a : Addr} {ds es : List D} {ws : List V} {d : D} {v : V} (r : Rel (Wof X) ρ st H) (hn : ρ[n]? = some a) (hc : st[n]? = some (.lst ds)) (he : Reps (Wof X) ρ H es ws) (hd : Rep (Wof X) ρ H d v) (h : PostD (Wof X) E ρ H (.ok d (st.set n (.lst es))) Q) : Q v (upd H a (.lst ws)) := by
  have e : Ext (Wof X) ρ H ρ (upd H a (.lst ws)) := Ext.write r hn hc trivial
  exact h ρ _ _ e (r.write hn hc trivial ⟨ws, upd_same, Reps.mono e _ _ he⟩) (Rep.mono e _ _ hd)
theorem me_ok {f : Me} {x : D} {v : V} {args : List D} {vs : List V} (r : Rel (Wof X) ρ st H) (hx : Rep (Wof X) ρ H x v) (ha : Reps (Wof X) ρ H args vs) (h : PostD (Wof X) E ρ H (meOp f x args st) Q) : MtV X f.id v vs H Q := by
  have one : ∀ {d : D}, args = [d] → ∃ v, vs = [v] ∧ Rep (Wof X) ρ H d v := fun {d} e => by
    subst e
    simp only [Reps] at ha
    obtain ⟨v, t, rfl, h1, rfl⟩ := ha
    exact ⟨v, rfl, h1⟩
  unfold meOp at h
  split at h
  · rename_i n d
    obtain ⟨w, rfl, hd⟩ := one rfl
    split at h
    · rename_i ds e
      obtain ⟨a, us, rfl, h0, h1, h2⟩ := lst_at r hx e
      split at h
      · rename_i hz
        exact MtV.of mt_append ⟨a, us, w, rfl, rfl, h1, by rw [h2.length]; exact sz_bigL hz, wr_lst r h0 e (h2.append (Reps.cons hd Reps.nil)) (rep_non.mpr rfl) h⟩
      · exact h.elim
    · exact h.elim
  · rename_i n i
    obtain ⟨w, rfl, hd⟩ := one rfl
    cases rep_int.mp hd
    split at h
    · rename_i ds e
      obtain ⟨a, us, rfl, h0, h1, h2⟩ := lst_at r hx e
      split at h
      · rename_i hz
        split at h
        · rename_i k ek
          split at h
          · rename_i d ed
            obtain ⟨y, ey, hy⟩ := h2.get ed
            exact MtV.of mt_popAt ⟨a, us, i, k, y, rfl, rfl, h1, hz.1, hz.2, by rw [h2.length]; exact ek, ey, wr_lst r h0 e (h2.eraseIdx k) hy h⟩
          · exact h.elim
        · exact h.elim
      · exact h.elim
    · exact h.elim
  · obtain ⟨w, rfl, hd⟩ := one rfl
    cases rep_str.mp hd
    cases rep_str.mp hx
    split at h
    · rename_i hz
      exact MtV.of mt_split ⟨_, _, rfl, rfl, hz.1, sz_big hz.2, post_lst r h (reps_strs _)⟩
    · exact h.elim
  · exact h.elim
end
end Dp
set_option Elab.async false
set_option linter.all false
set_option maxRecDepth 100000
set_option maxHeartbeats 4000000
/-! Dp5: expressions, one rule a construct, over canonical readings. -/
namespace Dp
open PySem PySem.Spec PyProof.Rows L2

theorem peT {X : Cx} {e : Expr} {t t' : TE} (w : ∀ σ H Q, t' σ H Q → t σ H Q) (h : PE X e t) : PE X e t' := ⟨fun pins s σ H Q I q => h.run pins s σ H Q I (w σ H Q q)⟩
theorem ptT {X : Cx} {e : Expr} {t t' : TT} (w : ∀ σ H Q, t' σ H Q → t σ H Q) (h : PT X e t) : PT X e t' := ⟨fun pins s σ H Q I q => h.run pins s σ H Q I (w σ H Q q)⟩
theorem pwT {X : Cx} {e : Expr} {t t' : TT} (w : ∀ σ H Q, t' σ H Q → t σ H Q) (h : PW X e t) : PW X e t' := ⟨fun wh pins s σ H Q I q => h.run wh pins s σ H Q I (w σ H Q q)⟩
theorem paT {X : Cx} {e : List Expr} {t t' : TA} (w : ∀ σ H Q, t' σ H Q → t σ H Q) (h : PA X e t) : PA X e t' := ⟨fun pos pins s σ H Q I q => h.run pos pins s σ H Q I (w σ H Q q)⟩

abbrev BM := Slt → Store → Out Bool
def mBad {α : Type} : Slt → Store → Out α := fun _ _ => .bad
theorem T_bad {W : Wd} {E : XK} {σ : L2.St} {H : Hp} {Q : VK} (h : T W E mBad σ H Q) : False := by
  obtain ⟨_, _, _, _, _, h⟩ := h; exact h
theorem pe_bad {X : Cx} {e : Expr} {W : Wd} {E : XK} : PE X e (T W E mBad) := ⟨fun _ _ _ _ _ _ h => (T_bad h).elim⟩
theorem pt_bad {X : Cx} {e : Expr} {W : Wd} {E : XK} : PT X e (TB W E mBad) := ⟨fun _ _ _ _ _ _ h => by obtain ⟨_, _, _, _, _, h⟩ := h; exact h.elim⟩
theorem pw_bad {X : Cx} {e : Expr} {W : Wd} {E : XK} : PW X e (TB W E mBad) := ⟨fun _ _ _ _ _ _ _ h => by obtain ⟨_, _, _, _, _, h⟩ := h; exact h.elim⟩
theorem pa_bad {X : Cx} {e : List Expr} {W : Wd} {E : XK} : PA X e (TAr W E mBad) := ⟨fun _ _ _ _ _ _ _ h => by obtain ⟨_, _, _, _, _, h⟩ := h; exact h.elim⟩

/-! ### the evaluations -/
def mC (d : D) : EM := fun _ st => .ok d st
def constD : Const → Option D
  | .none => some .non
  | .bool b => some (.bl b)
  | .int i => some (.int i)
  | .str s => some (.str s)
  | _ => none
def mConst (c : Const) : EM := match constD c with
  | some d => mC d
  | none => mBad
def mSlot (i : Nat) : EM := fun env st => match env[i]? with
  | some (some d) => .ok d st
  | _ => .bad
def mBin (op : Operator) (a b : EM) : EM := fun env st => (a env st).bind fun x s1 => (b env s1).bind fun y s2 => binOp op x y s2
def mUn (op : UnaryOp) (a : EM) : EM := fun env st => (a env st).bind fun x s1 => unOp op x s1
def mCmp (op : CmpOp) (a b : EM) : EM := fun env st => (a env st).bind fun x s1 => (b env s1).bind fun y s2 => cmpOp op x y s2
def mChain (op op' : CmpOp) (a b c : EM) : EM := fun env st => (a env st).bind fun x s1 => (b env s1).bind fun y s2 => (cmpOp op x y s2).bind fun z s3 => match z with
  | .bl true => (c env s3).bind fun w s4 => cmpOp op' y w s4
  | .bl false => .ok (.bl false) s3
  | _ => .bad
def asB (a : EM) : BM := fun env st => (a env st).bind fun x s1 => match x with
  | .bl b => .ok b s1
  | _ => .bad
def truD (st : Store) : D → Option Bool
  | .non => some false
  | .bl b => some b
  | .int i => some (i != 0)
  | .str s => if s.length ≤ big then some ((s.length : Int) != 0) else none
  | .tup ds => some (!ds.isEmpty)
  | .ref n => match st[n]? with
    | some (.lst ds) => some (!ds.isEmpty)
    | some (.frz ds) => some (!ds.isEmpty)
    | some (.dct ks) => some (!ks.isEmpty)
    | none => none
  | _ => none
def mTru (a : EM) : BM := fun env st => (a env st).bind fun x s1 => match truD s1 x with
  | some b => .ok b s1
  | none => .bad
def mNotB (a : BM) : BM := fun env st => (a env st).bind fun x s1 => .ok (!x) s1
def mAndB (a b : BM) : BM := fun env st => (a env st).bind fun x s1 => match x with
  | true => b env s1
  | false => .ok false s1
def mOrB (a b : BM) : BM := fun env st => (a env st).bind fun x s1 => match x with
  | true => .ok true s1
  | false => b env s1
def mIfB (c a b : BM) : BM := fun env st => (c env st).bind fun x s1 => match x with
  | true => a env s1
  | false => b env s1
def mNot (a : EM) : EM := fun env st => (a env st).bind fun x s1 => match truD s1 x with
  | some b => .ok (.bl (!b)) s1
  | none => .bad
def mAnd (a b : EM) : EM := fun env st => (a env st).bind fun x s1 => match truD s1 x with
  | some true => b env s1
  | some false => .ok x s1
  | none => .bad
def mOr (a b : EM) : EM := fun env st => (a env st).bind fun x s1 => match truD s1 x with
  | some true => .ok x s1
  | some false => b env s1
  | none => .bad
def mIf (c : BM) (a b : EM) : EM := fun env st => (c env st).bind fun x s1 => match x with
  | true => a env s1
  | false => b env s1
def mNil : AM := fun _ st => .ok [] st
def mCons (a : EM) (b : AM) : AM := fun env st => (a env st).bind fun x s1 => (b env s1).bind fun xs s2 => .ok (x :: xs) s2
def mStar (a : EM) (b : AM) : AM := fun env st => (a env st).bind fun x s1 => match itemsOf s1 x with
  | some ds => (b env s1).bind fun xs s2 => .ok (ds ++ xs) s2
  | none => .bad
def mTup (a : AM) : EM := fun env st => (a env st).bind fun xs s1 => if xs.length ≤ big then .ok (.tup xs) s1 else .bad
def mLst (a : AM) : EM := fun env st => (a env st).bind fun xs s1 => if xs.length ≤ big then .ok (.ref s1.length) (s1.push (.lst xs)) else .bad
def mIx (a b : EM) : EM := fun env st => (a env st).bind fun x s1 => (b env s1).bind fun y s2 => ixOp x y s2
abbrev OM := Slt → Store → Out (Option Int)
def mPart (a : EM) : OM := fun env st => (a env st).bind fun x s1 => match x with
  | .int i => .ok (some i) s1
  | _ => .bad
def mNoPart : OM := fun _ st => .ok none st
def mSl (a : EM) (l u : OM) : EM := fun env st => (a env st).bind fun x s1 => (l env s1).bind fun lo s2 => (u env s2).bind fun hi s3 => slOp x lo hi s3
def mRev (a : EM) : EM := fun env st => (a env st).bind fun x s1 => match x with
  | .tup ds => .ok (.tup ds.reverse) s1
  | .ref n => match (s1[n]?).bind Cell.items with
    | some ds => .ok (.ref s1.length) (s1.push (.lst ds.reverse))
    | none => .bad
  | _ => .bad
def mCallB (f : Bi) (a : AM) : EM := fun env st => (a env st).bind fun xs s1 => callOp f xs s1
def mMeth (f : Me) (a : EM) (b : AM) : EM := fun env st => (a env st).bind fun x s1 => if meTy f x s1 then (b env s1).bind fun xs s2 => meOp f x xs s2 else .bad

/-! ### the rules -/
section
variable {X : Cx} {E : XK} {a b c : Expr} {es rest : List Expr} {ma mb mc : EM} {pos : Pos} {op op' : CmpOp} {la : AM} {ba bb bc : BM}
theorem pe_constD {k : Const} {j : Nat} : PE X (.Constant k j pos) (T (Wof X) E (mConst k)) := by
  unfold mConst
  cases k with
  | none => exact peT (fun σ H Q ⟨ρ, env, st, hE, hR, hP⟩ => post_same hR hP (rep_non.mpr rfl)) pe_non
  | bool i => exact peT (fun σ H Q ⟨ρ, env, st, hE, hR, hP⟩ => post_same hR hP (rep_bl.mpr rfl)) pe_bl
  | int i => exact peT (fun σ H Q ⟨ρ, env, st, hE, hR, hP⟩ => post_same hR hP (rep_int.mpr rfl)) pe_int
  | str i => exact peT (fun σ H Q ⟨ρ, env, st, hE, hR, hP⟩ => post_same hR hP (rep_str.mpr rfl)) pe_str
  | _ => exact pe_bad
theorem pe_slotD {i : Nat} {x : Str} (hN : X.N[i]? = some x) (hv : Vis X.env.scope x) (hd : (x == ("__debug__" : Str)) = false) (hcd : (x == ("__classdict__" : Str)) = false) : PE X (.Name x pos) (T (Wof X) E (mSlot i)) :=
  peT (fun σ H Q ⟨ρ, env, st, hE, hR, hP⟩ => by
    unfold mSlot at hP
    split at hP
    · rename_i d e
      obtain ⟨v, h1, h2⟩ := hE.2 i d e
      exact ⟨v, h1, post_same hR hP h2⟩
    · exact hP.elim) (pe_var hN hv hd hcd)
theorem pe_globD {x : Str} {d : D} {v : V} {u : Value} (hg : Gl X x) (r : RelV v u) (hm : X.mg x = some u ∨ (X.mg x = none ∧ x ≠ "__name__" ∧ bootBuiltins x = some u)) (hd : (x == ("__debug__" : Str)) = false)
    (hr : ∀ ρ H, Rep (Wof X) ρ H d v) : PE X (.Name x pos) (T (Wof X) E (mC d)) :=
  peT (fun σ H Q ⟨ρ, env, st, hE, hR, hP⟩ => post_same hR hP (hr _ _)) (hm.elim (fun h => pe_glob hg h r hd) fun h => pe_bltn hg h.1 h.2.2 r h.2.1 hd)
theorem pe_binD {o : Operator} (ha : PE X a (T (Wof X) E ma)) (hb : PE X b (T (Wof X) E mb)) : PE X (.BinOp a o b pos) (T (Wof X) E (mBin o ma mb)) :=
  peT (fun σ H Q ⟨ρ, env, st, hE, hR, hP⟩ => ⟨ρ, env, st, hE, hR, bindT hP fun ρ1 H1 d1 v1 st1 e1 r1 p1 hP1 => ⟨ρ1, env, st1, hE.mono e1, r1, bindT hP1 fun ρ2 H2 d2 v2 st2 e2 r2 p2 hP2 =>
    bin_ok r2 (Rep.mono e2 _ _ p1) p2 hP2⟩⟩) (pe_op opv ha hb)
theorem pe_unD {o : UnaryOp} (ha : PE X a (T (Wof X) E ma)) : PE X (.UnaryOp o a pos) (T (Wof X) E (mUn o ma)) :=
  peT (fun σ H Q ⟨ρ, env, st, hE, hR, hP⟩ => ⟨ρ, env, st, hE, hR, bindT hP fun ρ1 H1 d1 v1 st1 e1 r1 p1 hP1 => un_ok r1 p1 hP1⟩) (pe_un unv ha)
theorem pe_cmpD (hu : X.A.units + 200 < cLine) (ha : PE X a (T (Wof X) E ma)) (hb : PE X b (T (Wof X) E mb)) (hm : behindInMarks op b = false) : PE X (.Compare a [op] [b] pos) (T (Wof X) E (mCmp op ma mb)) :=
  peT (fun σ H Q ⟨ρ, env, st, hE, hR, hP⟩ => ⟨ρ, env, st, hE, hR, bindT hP fun ρ1 H1 d1 v1 st1 e1 r1 p1 hP1 => ⟨ρ1, env, st1, hE.mono e1, r1, bindT hP1 fun ρ2 H2 d2 v2 st2 e2 r2 p2 hP2 =>
    cmp_ok (by omega) r2 (Rep.mono e2 _ _ p1) p2 hP2⟩⟩) (pe_cmpR opv ha hb hm)
theorem asB_post {ρ : List Addr} {H : Hp} {o : Out D} {Q : Bool → Hp → Prop} (h : Post (Wof X) (fun _ _ (x y : Bool) => y = x) E ρ H (o.bind fun x s1 => match x with | .bl b => .ok b s1 | _ => .bad) Q) : PostD (Wof X) E ρ H o fun v H' => ∃ k, v = .bl k ∧ Q k H' := by
  refine bindT h fun ρ1 H1 d1 v1 st1 e1 r1 p1 hP1 => ?_
  split at hP1
  · cases rep_bl.mp p1
    exact ⟨_, rfl, hP1 ρ1 H1 _ Ext.refl r1 rfl⟩
  · exact hP1.elim
theorem pt_cmpD (hu : X.A.units + 200 < cLine) (ha : PE X a (T (Wof X) E ma)) (hb : PE X b (T (Wof X) E mb)) (hm : behindInMarks op b = false) : PT X (.Compare a [op] [b] pos) (TB (Wof X) E (asB (mCmp op ma mb))) :=
  ptT (fun σ H Q ⟨ρ, env, st, hE, hR, hP⟩ => by
    have hP' := asB_post hP
    exact ⟨ρ, env, st, hE, hR, bindT hP' fun ρ1 H1 d1 v1 st1 e1 r1 p1 hP1 => ⟨ρ1, env, st1, hE.mono e1, r1, bindT hP1 fun ρ2 H2 d2 v2 st2 e2 r2 p2 hP2 =>
      cmp_ok (by omega) r2 (Rep.mono e2 _ _ p1) p2 hP2⟩⟩) (pt_cmpR opv ha hb hm)
theorem chain_rd (hu : X.A.units + 200 < cLine) {σ : L2.St} {H : Hp} {Q : VK} {ρ : List Addr} {env : Slt} {st : Store} (hE : RelE (Wof X) ρ H env σ) (hR : Rel (Wof X) ρ st H) (hP : PostD (Wof X) E ρ H (mChain op op' ma mb mc env st) Q) :
    tChain (OpV X (compareOp op)) (OpV X (compareOp op')) (T (Wof X) E ma) (T (Wof X) E mb) (T (Wof X) E mc) σ H Q :=
  ⟨ρ, env, st, hE, hR, bindT hP fun ρ1 H1 d1 v1 st1 e1 r1 p1 hP1 => ⟨ρ1, env, st1, hE.mono e1, r1, bindT hP1 fun ρ2 H2 d2 v2 st2 e2 r2 p2 hP2 => by
    refine cmp_ok (E := E) (by omega) r2 (Rep.mono e2 _ _ p1) p2 (bindT hP2 fun ρ3 H3 d3 v3 st3 e3 r3 p3 hP3 => ?_)
    split at hP3
    · cases rep_bl.mp p3
      refine ⟨true, rfl, ?_⟩
      rw [if_pos rfl]
      exact ⟨ρ3, env, st3, ((hE.mono e1).mono e2).mono e3, r3, bindT hP3 fun ρ4 H4 d4 v4 st4 e4 r4 p4 hP4 => cmp_ok (by omega) r4 (Rep.mono (e3.trans e4) _ _ p2) p4 hP4⟩
    · cases rep_bl.mp p3
      refine ⟨false, rfl, ?_⟩
      rw [if_neg Bool.false_ne_true]
      exact post_same r3 hP3 (rep_bl.mpr rfl)
    · exact hP3.elim⟩⟩
theorem pe_chainD (hu : X.A.units + 200 < cLine) (ha : PE X a (T (Wof X) E ma)) (hb : PE X b (T (Wof X) E mb)) (hc : PE X c (T (Wof X) E mc)) (hm : lastMarks [op, op'] [b, c] = false) : PE X (.Compare a [op, op'] [b, c] pos) (T (Wof X) E (mChain op op' ma mb mc)) :=
  peT (fun σ H Q ⟨ρ, env, st, hE, hR, hP⟩ => chain_rd hu hE hR hP) (pe_chain opv opv ha hb hc hm)
theorem pt_chainD (hu : X.A.units + 200 < cLine) (ha : PE X a (T (Wof X) E ma)) (hb : PE X b (T (Wof X) E mb)) (hc : PE X c (T (Wof X) E mc)) (hm : lastMarks [op, op'] [b, c] = false) : PT X (.Compare a [op, op'] [b, c] pos) (TB (Wof X) E (asB (mChain op op' ma mb mc))) :=
  ptT (fun σ H Q ⟨ρ, env, st, hE, hR, hP⟩ => chain_rd hu hE hR (asB_post hP)) (pt_chain opv opv ha hb hc hm)

theorem isEmp {α β : Type} {xs : List α} {ys : List β} (h : ys.length = xs.length) : ys.isEmpty = xs.isEmpty := by
  cases xs <;> cases ys <;> first | rfl | (simp at h)
theorem tru_okD {st : Store} {d : D} {v : V} {ρ : List Addr} {H : Hp} {k : Bool} (r : Rel (Wof X) ρ st H) (hd : Rep (Wof X) ρ H d v) (h : truD st d = some k) : TruV X.K v H k := by
  unfold truD at h
  split at h
  · cases h; cases rep_non.mp hd; rfl
  · cases h; cases rep_bl.mp hd; rfl
  · cases h; cases rep_int.mp hd; rfl
  · cases rep_str.mp hd
    split at h
    · rename_i hz
      cases h
      exact ⟨sz_big hz, rfl⟩
    · cases h
  · cases h
    obtain ⟨p, vs, rfl, h1, h2⟩ := rep_tup.mp hd
    refine .inr (.inl ⟨vs, h1, ?_⟩)
    rw [isEmp h2.length]
  · rename_i n
    obtain ⟨p, rfl, h0⟩ := rep_ref.mp hd
    split at h
    · rename_i ds e
      cases h
      obtain ⟨vs, h1, h2⟩ := r.cell n p _ h0 e
      refine .inl ⟨vs, SqL.of h1, ?_⟩
      rw [isEmp h2.length]
    · rename_i ds e
      cases h
      obtain ⟨vs, o, h1, h2⟩ := r.cell n p _ h0 e
      refine .inl ⟨vs, .inl (.inr ⟨o, h1⟩), ?_⟩
      rw [isEmp h2.length]
    · rename_i ds e
      cases h
      obtain ⟨vs, h1, h2⟩ := r.cell n p _ h0 e
      refine .inr (.inr ⟨vs, h1, ?_⟩)
      rw [isEmp h2.len]
    · cases h
  · cases h
theorem pt_truD (ha : PE X a (T (Wof X) E ma)) (he : ∀ whole, isTrue a X.env whole = (do let v ← whole; standAt a.pos; holding [v] (truthy v))) : PT X a (TB (Wof X) E (mTru ma)) :=
  ptT (fun σ H Q ⟨ρ, env, st, hE, hR, hP⟩ => ⟨ρ, env, st, hE, hR, bindT hP fun ρ1 H1 d1 v1 st1 e1 r1 p1 hP1 => by
    split at hP1
    · rename_i k ek
      exact ⟨k, tru_okD r1 p1 ek, hP1 ρ1 H1 k Ext.refl r1 rfl⟩
    · exact hP1.elim⟩) (pt_truth ha he)
theorem pt_notD (ha : PT X a (TB (Wof X) E ba)) : PT X (.UnaryOp .Not a pos) (TB (Wof X) E (mNotB ba)) :=
  ptT (fun σ H Q ⟨ρ, env, st, hE, hR, hP⟩ => ⟨ρ, env, st, hE, hR, bindT hP fun ρ1 H1 d1 v1 st1 e1 r1 p1 hP1 => by
    have e : v1 = d1 := p1
    subst e
    exact hP1 ρ1 H1 _ Ext.refl r1 rfl⟩) (pt_not ha)
theorem pw_and1D (ha : PT X a (TB (Wof X) E ba)) : PW X (.BoolOp .And [a] pos) (TB (Wof X) E ba) := pw_and1 ha
theorem pw_or1D (ha : PT X a (TB (Wof X) E ba)) : PW X (.BoolOp .Or [a] pos) (TB (Wof X) E ba) := pw_or1 ha
theorem pw_andD (ha : PT X a (TB (Wof X) E ba)) (hb : PW X (.BoolOp .And (b :: rest) pos) (TB (Wof X) E bb)) : PW X (.BoolOp .And (a :: b :: rest) pos) (TB (Wof X) E (mAndB ba bb)) :=
  pwT (fun σ H Q ⟨ρ, env, st, hE, hR, hP⟩ => ⟨ρ, env, st, hE, hR, bindT hP fun ρ1 H1 d1 v1 st1 e1 r1 p1 hP1 => by
    have e : v1 = d1 := p1
    subst e
    cases v1 with
    | true => rw [if_pos rfl]; exact ⟨ρ1, env, st1, hE.mono e1, r1, hP1⟩
    | false => rw [if_neg Bool.false_ne_true]; exact hP1 ρ1 H1 _ Ext.refl r1 rfl⟩) (pw_and ha hb)
theorem pw_orD (ha : PT X a (TB (Wof X) E ba)) (hb : PW X (.BoolOp .Or (b :: rest) pos) (TB (Wof X) E bb)) : PW X (.BoolOp .Or (a :: b :: rest) pos) (TB (Wof X) E (mOrB ba bb)) :=
  pwT (fun σ H Q ⟨ρ, env, st, hE, hR, hP⟩ => ⟨ρ, env, st, hE, hR, bindT hP fun ρ1 H1 d1 v1 st1 e1 r1 p1 hP1 => by
    have e : v1 = d1 := p1
    subst e
    cases v1 with
    | true => rw [if_pos rfl]; exact hP1 ρ1 H1 _ Ext.refl r1 rfl
    | false => rw [if_neg Bool.false_ne_true]; exact ⟨ρ1, env, st1, hE.mono e1, r1, hP1⟩⟩) (pw_or ha hb)
theorem pt_ifD (hc : PT X c (TB (Wof X) E bc)) (ha : PT X a (TB (Wof X) E ba)) (hb : PT X b (TB (Wof X) E bb)) : PT X (.IfExp c a b pos) (TB (Wof X) E (mIfB bc ba bb)) := by
  refine ⟨fun pins s σ H Q I h => ?_⟩
  obtain ⟨ρ, env, st, hE, hR, hP⟩ := h
  refine isTrue_IfExp (thn (hc.run pins s σ H (fun k H1 => if k = true then TB (Wof X) E ba σ H1 Q else TB (Wof X) E bb σ H1 Q) I ⟨ρ, env, st, hE, hR, bindT hP fun ρ1 H1 d1 v1 st1 e1 r1 p1 hP1 => ?_⟩) fun d s1 ⟨H1, I1, q1⟩ => ?_)
  · have e : v1 = d1 := p1
    subst e
    cases v1 with
    | true => rw [if_pos rfl]; exact ⟨ρ1, env, st1, hE.mono e1, r1, hP1⟩
    | false => rw [if_neg Bool.false_ne_true]; exact ⟨ρ1, env, st1, hE.mono e1, r1, hP1⟩
  · cases d with
    | true => exact ha.run pins s1 σ H1 Q I1 q1
    | false => exact hb.run pins s1 σ H1 Q I1 q1
theorem pe_ifD (hc : PT X c (TB (Wof X) E bc)) (ha : PE X a (T (Wof X) E ma)) (hb : PE X b (T (Wof X) E mb)) : PE X (.IfExp c a b pos) (T (Wof X) E (mIf bc ma mb)) :=
  peT (fun σ H Q ⟨ρ, env, st, hE, hR, hP⟩ => ⟨ρ, env, st, hE, hR, bindT hP fun ρ1 H1 d1 v1 st1 e1 r1 p1 hP1 => by
    have e : v1 = d1 := p1
    subst e
    cases v1 with
    | true => rw [if_pos rfl]; exact ⟨ρ1, env, st1, hE.mono e1, r1, hP1⟩
    | false => rw [if_neg Bool.false_ne_true]; exact ⟨ρ1, env, st1, hE.mono e1, r1, hP1⟩⟩) (pe_ifExp hc ha hb)
theorem pe_notD (ha : PE X a (T (Wof X) E ma)) : PE X (.UnaryOp .Not a pos) (T (Wof X) E (mNot ma)) :=
  peT (fun σ H Q ⟨ρ, env, st, hE, hR, hP⟩ => ⟨ρ, env, st, hE, hR, bindT hP fun ρ1 H1 d1 v1 st1 e1 r1 p1 hP1 => by
    split at hP1
    · rename_i k ek
      exact ⟨k, tru_okD r1 p1 ek, post_same r1 hP1 (rep_bl.mpr rfl)⟩
    · exact hP1.elim⟩) (pe_notT ha)
theorem pe_andD (ha : PE X a (T (Wof X) E ma)) (hb : PE X (.BoolOp .And (b :: rest) pos) (T (Wof X) E mb)) : PE X (.BoolOp .And (a :: b :: rest) pos) (T (Wof X) E (mAnd ma mb)) :=
  peT (fun σ H Q ⟨ρ, env, st, hE, hR, hP⟩ => ⟨ρ, env, st, hE, hR, bindT hP fun ρ1 H1 d1 v1 st1 e1 r1 p1 hP1 => by
    split at hP1
    · rename_i ek
      exact ⟨true, tru_okD r1 p1 ek, by rw [if_pos rfl]; exact ⟨ρ1, env, st1, hE.mono e1, r1, hP1⟩⟩
    · rename_i ek
      exact ⟨false, tru_okD r1 p1 ek, by rw [if_neg Bool.false_ne_true]; exact post_same r1 hP1 p1⟩
    · exact hP1.elim⟩) (pe_andT ha hb)
theorem pe_orD (ha : PE X a (T (Wof X) E ma)) (hb : PE X (.BoolOp .Or (b :: rest) pos) (T (Wof X) E mb)) : PE X (.BoolOp .Or (a :: b :: rest) pos) (T (Wof X) E (mOr ma mb)) :=
  peT (fun σ H Q ⟨ρ, env, st, hE, hR, hP⟩ => ⟨ρ, env, st, hE, hR, bindT hP fun ρ1 H1 d1 v1 st1 e1 r1 p1 hP1 => by
    split at hP1
    · rename_i ek
      exact ⟨true, tru_okD r1 p1 ek, by rw [if_pos rfl]; exact post_same r1 hP1 p1⟩
    · rename_i ek
      exact ⟨false, tru_okD r1 p1 ek, by rw [if_neg Bool.false_ne_true]; exact ⟨ρ1, env, st1, hE.mono e1, r1, hP1⟩⟩
    · exact hP1.elim⟩) (pe_orT ha hb)

/-! arguments, displays -/
theorem pa_nilD : PA X [] (TAr (Wof X) E mNil) := paT (fun σ H Q ⟨ρ, env, st, hE, hR, hP⟩ => hP ρ H [] Ext.refl hR Reps.nil) pa_nil
theorem pa_consD (ha : PE X a (T (Wof X) E ma)) (hr : PA X es (TAr (Wof X) E la)) (hs : starEach (a :: es) X.env = (false, eval a X.env) :: starEach es X.env) : PA X (a :: es) (TAr (Wof X) E (mCons ma la)) :=
  paT (fun σ H Q ⟨ρ, env, st, hE, hR, hP⟩ => ⟨ρ, env, st, hE, hR, bindT hP fun ρ1 H1 d1 v1 st1 e1 r1 p1 hP1 => ⟨ρ1, env, st1, hE.mono e1, r1, bindT hP1 fun ρ2 H2 d2 v2 st2 e2 r2 p2 hP2 =>
    hP2 ρ2 H2 (v1 :: v2) Ext.refl r2 (Reps.cons (Rep.mono e2 _ _ p1) p2)⟩⟩) (pa_cons ha hr hs)
theorem pa_starD {p : Pos} (ha : PE X a (T (Wof X) E ma)) (hr : PA X es (TAr (Wof X) E la)) : PA X (.Starred a p :: es) (TAr (Wof X) E (mStar ma la)) :=
  paT (fun σ H Q ⟨ρ, env, st, hE, hR, hP⟩ => ⟨ρ, env, st, hE, hR, bindT hP fun ρ1 H1 d1 v1 st1 e1 r1 p1 hP1 => by
    split at hP1
    · rename_i ds ei
      obtain ⟨q, vs, rfl, h1, h2⟩ := items_ok r1 p1 ei
      exact ⟨q, vs, rfl, h1.symm, ρ1, env, st1, hE.mono e1, r1, bindT hP1 fun ρ2 H2 d2 v2 st2 e2 r2 p2 hP2 => hP2 ρ2 H2 (vs ++ v2) Ext.refl r2 ((Reps.mono e2 _ _ h2).append p2)⟩
    · exact hP1.elim⟩) (StX.pa_star ha hr)
theorem pe_tupD {k : Nat} (ha : PA X es (TAr (Wof X) E la)) : PE X (.Tuple es k pos) (T (Wof X) E (mTup la)) :=
  peT (fun σ H Q ⟨ρ, env, st, hE, hR, hP⟩ => ⟨ρ, env, st, hE, hR, bindT hP fun ρ1 H1 d1 v1 st1 e1 r1 p1 hP1 => by
    split at hP1
    · rename_i hz
      exact ⟨by rw [p1.length]; exact sz_big hz, post_tup r1 hP1 p1⟩
    · exact hP1.elim⟩) (pe_tup ha)
theorem pe_lstD (ha : PA X es (TAr (Wof X) E la)) : PE X (.List es pos) (T (Wof X) E (mLst la)) :=
  peT (fun σ H Q ⟨ρ, env, st, hE, hR, hP⟩ => ⟨ρ, env, st, hE, hR, bindT hP fun ρ1 H1 d1 v1 st1 e1 r1 p1 hP1 => by
    split at hP1
    · rename_i hz
      exact ⟨by rw [p1.length]; exact sz_big hz, post_lst r1 hP1 p1⟩
    · exact hP1.elim⟩) (pe_lst ha)

/-! places, slices -/
theorem pe_ixD (hu : X.A.units + 200 < cLine) (ha : PE X a (T (Wof X) E ma)) (hb : PE X b (T (Wof X) E mb)) (hs : PlainIx b) : PE X (.Subscript a b pos) (T (Wof X) E (mIx ma mb)) :=
  peT (fun σ H Q ⟨ρ, env, st, hE, hR, hP⟩ => ⟨ρ, env, st, hE, hR, bindT hP fun ρ1 H1 d1 v1 st1 e1 r1 p1 hP1 => ⟨ρ1, env, st1, hE.mono e1, r1, bindT hP1 fun ρ2 H2 d2 v2 st2 e2 r2 p2 hP2 =>
    ix_ok (by omega) r2 (Rep.mono e2 _ _ p1) p2 hP2⟩⟩) (pe_ix ixv ha hb hs)
def TOp (W : Wd) (E : XK) (m : OM) : TO := fun σ H Q => ∃ ρ env st, RelE W ρ H env σ ∧ Rel W ρ st H ∧ Post W (fun _ _ (x y : Option Int) => y = x) E ρ H (m env st) Q
theorem poT {oe : Option Expr} {t t' : TO} (w : ∀ σ H Q, t' σ H Q → t σ H Q) (h : PO X oe t) : PO X oe t' := ⟨fun pins s σ H Q I q => h.run pins s σ H Q I (w σ H Q q)⟩
theorem po_noneD : PO X none (TOp (Wof X) E mNoPart) := poT (fun σ H Q ⟨ρ, env, st, hE, hR, hP⟩ => hP ρ H none Ext.refl hR rfl) po_none
theorem po_someD (ha : PE X a (T (Wof X) E ma)) : PO X (some a) (TOp (Wof X) E (mPart ma)) :=
  poT (fun σ H Q ⟨ρ, env, st, hE, hR, hP⟩ => ⟨ρ, env, st, hE, hR, bindT hP fun ρ1 H1 d1 v1 st1 e1 r1 p1 hP1 => by
    split at hP1
    · rename_i i
      cases rep_int.mp p1
      exact ⟨i, rfl, hP1 ρ1 H1 _ Ext.refl r1 rfl⟩
    · exact hP1.elim⟩) (po_some ha)
theorem pe_slD {lo hi : Option Expr} {l u : OM} {p2 : Pos} (ha : PE X a (T (Wof X) E ma)) (hl : PO X lo (TOp (Wof X) E l)) (hh : PO X hi (TOp (Wof X) E u)) : PE X (.Subscript a (.Slice lo hi none p2) pos) (T (Wof X) E (mSl ma l u)) :=
  peT (fun σ H Q ⟨ρ, env, st, hE, hR, hP⟩ => ⟨ρ, env, st, hE, hR, bindT hP fun ρ1 H1 d1 v1 st1 e1 r1 p1 hP1 => ⟨ρ1, env, st1, hE.mono e1, r1, bindT hP1 fun ρ2 H2 d2 v2 st2 e2 r2 p2 hP2 => by
    have z2 : v2 = d2 := p2
    subst z2
    exact ⟨ρ2, env, st2, (hE.mono e1).mono e2, r2, bindT hP2 fun ρ3 H3 d3 v3 st3 e3 r3 p3 hP3 => by
      have z3 : v3 = d3 := p3
      subst z3
      exact sl_ok r3 (Rep.mono (e2.trans e3) _ _ p1) hP3⟩⟩⟩) (pe_slice slv ha hl hh)
theorem pe_revD {k : Nat} {p1 p2 p3 : Pos} (ha : PE X a (T (Wof X) E ma)) : PE X (.Subscript a (.Slice none none (some (.UnaryOp .USub (.Constant (.int 1) k p1) p2)) p3) pos) (T (Wof X) E (mRev ma)) :=
  peT (fun σ H Q ⟨ρ, env, st, hE, hR, hP⟩ => ⟨ρ, env, st, hE, hR, bindT hP fun ρ1 H1 d1 v1 st1 e1 r1 p1 hP1 => by
    split at hP1
    · obtain ⟨q, vs, rfl, h1, h2⟩ := rep_tup.mp p1
      exact ⟨q, vs, rfl, .inr ⟨h1, post_tup r1 hP1 h2.reverse⟩⟩
    · split at hP1
      · rename_i ds ei
        obtain ⟨q, vs, rfl, h1, h2⟩ := itm_at r1 p1 ei
        exact ⟨q, vs, rfl, .inl ⟨h1, post_lst r1 hP1 h2.reverse⟩⟩
      · exact hP1.elim
    · exact hP1.elim⟩) (pe_revA ha)
end
end Dp
set_option Elab.async false
set_option linter.all false
set_option maxRecDepth 100000
set_option maxHeartbeats 4000000
/-! Dp6: what is walked, targets, comprehensions. -/
namespace Dp
open PySem PySem.Spec PyProof.Rows L2

/-! ### sources -/
inductive Src where
  | fix (ds : List D) | dyn (n : Nat) | zip (a b : Src) | enum (n : Nat) | zipm (n m : Nat) (a b : Src)
def Src.size (st : Store) : Src → Option Nat
  | .fix ds => some ds.length
  | .dyn n => ((st[n]?).bind Cell.items).map List.length
  | _ => none
def Src.good (st : Store) : Src → Nat → Bool
  | .fix _, _ => true
  | .dyn n, _ => ((st[n]?).bind Cell.items).isSome
  | .enum n, _ => ((st[n]?).bind Cell.items).isSome
  | .zip a b, i => a.good st i && b.good st i
  | .zipm n m a b, i => decide (a.size st = some n) && decide (b.size st = some m) && decide (i ≤ n) && decide (i ≤ m)
def Src.at (st : Store) : Src → Nat → Option D
  | .fix ds, i => ds[i]?
  | .dyn n, i => ((st[n]?).bind Cell.items).bind fun ds => ds[i]?
  | .enum n, i => ((st[n]?).bind Cell.items).bind fun ds => (ds[i]?).map fun d => .tup [.int i, d]
  | .zip a b, i => match a.at st i, b.at st i with
    | some x, some y => some (.tup [x, y])
    | _, _ => none
  | .zipm _ _ a b, i => match a.at st i, b.at st i with
    | some x, some y => some (.tup [x, y])
    | _, _ => none
/-- the iterator J yields what src tells -/
def Drives (W : Wd) (J : It) (ρ0 : List Addr) (H0 : Hp) (src : Src) : Prop := ∀ ρ H st i, Ext W ρ0 H0 ρ H → Rel W ρ st H → src.good st i = true →
  match src.at st i with
  | none => J.stop i H
  | some d => J.go i H ∧ ∀ x H', J.yld i H x H' → Ext W ρ H ρ H' ∧ Rel W ρ st H' ∧ Rep W ρ H' d x
abbrev SM := Slt → Store → Out Src
def TIt (W : Wd) (E : XK) (m : SM) : TI := fun σ H R => ∃ ρ env st, RelE W ρ H env σ ∧ Rel W ρ st H ∧ Post W (fun ρ' H' src (J : It) => Drives W J ρ' H' src) E ρ H (m env st) R

/-- a list read twice is one list -/
theorem sqT_inj_of {X : Cx} : True := trivial
theorem drives_tup {K : PySem.W.Frag} {mg : Str → Option Value} {ρ : List Addr} {H : Hp} {a : Addr} {ds : List D} {vs : List V} (h1 : SqT K H a vs) (h2 : Reps ⟨K, mg⟩ ρ H ds vs) : Drives ⟨K, mg⟩ (Itt K a) ρ H (.fix ds) := fun ρ' H' st i e r _ => by
  have h1' := e.tup a vs h1
  have h2' := Reps.mono e _ _ h2
  dsimp only [Src.at]
  cases hd : ds[i]? with
  | none =>
    refine ⟨vs, h1', ?_⟩
    rw [h2'.length]
    exact List.getElem?_eq_none_iff.mp hd
  | some d =>
    obtain ⟨v, hv, hr⟩ := h2'.get hd
    refine ⟨⟨vs, v, h1', hv⟩, fun x H2 y => ?_⟩
    obtain ⟨rfl, hx⟩ := y
    have := hx vs h1'
    rw [hv] at this
    cases this
    exact ⟨Ext.refl, r, hr⟩
theorem dyn_at {W : Wd} {ρ ρ' : List Addr} {H H' : Hp} {st : Store} {n : Nat} {a : Addr} {ds : List D} (h : ρ[n]? = some a) (e : Ext W ρ H ρ' H') (r : Rel W ρ' st H') (hi : (st[n]?).bind Cell.items = some ds) : ∃ vs, SqL W.K H' a vs ∧ Reps W ρ' H' ds vs := by
  obtain ⟨b, vs, eb, h1, h2⟩ := itm_at r (v := .ref a) (rep_ref.mpr ⟨a, rfl, e.pre n a h⟩) hi
  cases eb
  exact ⟨vs, h1, h2⟩
theorem drives_lst {K : PySem.W.Frag} {mg : Str → Option Value} {ρ : List Addr} {H : Hp} {a : Addr} {n : Nat} (h : ρ[n]? = some a) : Drives ⟨K, mg⟩ (Itl K a) ρ H (.dyn n) := fun ρ' H' st i e r g => by
  dsimp only [Src.good] at g
  obtain ⟨ds, hi⟩ := Option.isSome_iff_exists.mp g
  obtain ⟨vs, h1, h2⟩ := dyn_at h e r hi
  dsimp only [Src.at]
  rw [hi]
  dsimp only [Option.bind_some]
  cases hd : ds[i]? with
  | none =>
    refine ⟨vs, h1, ?_⟩
    rw [h2.length]
    exact List.getElem?_eq_none_iff.mp hd
  | some d =>
    obtain ⟨v, hv, hr⟩ := h2.get hd
    refine ⟨⟨vs, v, h1, hv⟩, fun x H2 y => ?_⟩
    obtain ⟨rfl, hx⟩ := y
    have := hx vs h1
    rw [hv] at this
    cases this
    exact ⟨Ext.refl, r, hr⟩
theorem pair_new {W : Wd} {ρ : List Addr} {st : Store} {H : Hp} {T : Addr} {x y : V} {d e : D} (hT : H T = none) (r : Rel W ρ st H) (hx : Rep W ρ H d x) (hy : Rep W ρ H e y) : Ext W ρ H ρ (upd H T (.tup [x, y])) ∧ Rel W ρ st (upd H T (.tup [x, y])) ∧ Rep W ρ (upd H T (.tup [x, y])) (.tup [d, e]) (.ref T) := by
  have ex : Ext W ρ H ρ (upd H T (.tup [x, y])) := Ext.new hT
  exact ⟨ex, r.new hT, rep_tup.mpr ⟨T, [x, y], rfl, SqT.of upd_same, Reps.cons (Rep.mono ex _ _ hx) (Reps.cons (Rep.mono ex _ _ hy) Reps.nil)⟩⟩
theorem drives_enum {K : PySem.W.Frag} {mg : Str → Option Value} {ρ : List Addr} {H : Hp} {a : Addr} {n : Nat} (h : ρ[n]? = some a) : Drives ⟨K, mg⟩ (Ite K a) ρ H (.enum n) := fun ρ' H' st i e r g => by
  dsimp only [Src.good] at g
  obtain ⟨ds, hi⟩ := Option.isSome_iff_exists.mp g
  obtain ⟨vs, h1, h2⟩ := dyn_at h e r hi
  dsimp only [Src.at]
  rw [hi]
  dsimp only [Option.bind_some]
  cases hd : ds[i]? with
  | none =>
    refine ⟨vs, h1, ?_⟩
    rw [h2.length]
    exact List.getElem?_eq_none_iff.mp hd
  | some d =>
    obtain ⟨v, hv, hr⟩ := h2.get hd
    refine ⟨⟨vs, v, h1, hv⟩, fun x H2 y => ?_⟩
    obtain ⟨T, z, rfl, hT, rfl, hz⟩ := y
    have := hz vs h1
    rw [hv] at this
    cases this
    exact pair_new hT r (rep_int.mpr rfl) hr
theorem drives_zipL {K : PySem.W.Frag} {mg : Str → Option Value} {ρ : List Addr} {H : Hp} {a b : Addr} {n m : Nat} (h : ρ[n]? = some a) (h' : ρ[m]? = some b) : Drives ⟨K, mg⟩ (Itz K a b) ρ H (.zip (.dyn n) (.dyn m)) := fun ρ' H' st i e r g => by
  dsimp only [Src.good] at g
  rw [Bool.and_eq_true] at g
  obtain ⟨ds, hi⟩ := Option.isSome_iff_exists.mp g.1
  obtain ⟨es, hj⟩ := Option.isSome_iff_exists.mp g.2
  obtain ⟨vs, h1, h2⟩ := dyn_at h e r hi
  obtain ⟨ws, h3, h4⟩ := dyn_at h' e r hj
  dsimp only [Src.at]
  rw [hi, hj]
  dsimp only [Option.bind_some]
  cases hd : ds[i]? with
  | none =>
    refine ⟨vs, ws, h1, h3, .inl ?_⟩
    rw [h2.length]
    exact List.getElem?_eq_none_iff.mp hd
  | some d =>
    cases he : es[i]? with
    | none =>
      refine ⟨vs, ws, h1, h3, .inr ?_⟩
      rw [h4.length]
      exact List.getElem?_eq_none_iff.mp he
    | some d2 =>
      obtain ⟨v, hv, hr⟩ := h2.get hd
      obtain ⟨w, hw, hs⟩ := h4.get he
      refine ⟨⟨vs, ws, v, w, h1, h3, hv, hw⟩, fun x H2 y => ?_⟩
      obtain ⟨T, z, z2, rfl, hT, rfl, hz, hz2⟩ := y
      have e1 := hz vs h1
      have e2 := hz2 ws h3
      rw [hv] at e1
      rw [hw] at e2
      cases e1
      cases e2
      exact pair_new hT r hr hs
theorem drives_zipT {K : PySem.W.Frag} {mg : Str → Option Value} {ρ : List Addr} {H : Hp} {a b : Addr} {ds es : List D} {vs ws : List V} (q1 : SqT K H a vs) (q2 : Reps ⟨K, mg⟩ ρ H ds vs) (q3 : SqT K H b ws) (q4 : Reps ⟨K, mg⟩ ρ H es ws) : Drives ⟨K, mg⟩ (RZ.ItzT K a b) ρ H (.zip (.fix ds) (.fix es)) := fun ρ' H' st i e r g => by
  have h1 := e.tup a vs q1
  have h2 := Reps.mono e _ _ q2
  have h3 := e.tup b ws q3
  have h4 := Reps.mono e _ _ q4
  dsimp only [Src.at]
  cases hd : ds[i]? with
  | none =>
    refine ⟨vs, ws, h1, h3, .inl ?_⟩
    rw [h2.length]
    exact List.getElem?_eq_none_iff.mp hd
  | some d =>
    cases he : es[i]? with
    | none =>
      refine ⟨vs, ws, h1, h3, .inr ?_⟩
      rw [h4.length]
      exact List.getElem?_eq_none_iff.mp he
    | some d2 =>
      obtain ⟨v, hv, hr⟩ := h2.get hd
      obtain ⟨w, hw, hs⟩ := h4.get he
      refine ⟨⟨vs, ws, v, w, h1, h3, hv, hw⟩, fun x H2 y => ?_⟩
      obtain ⟨T, z, z2, rfl, hT, rfl, hz, hz2⟩ := y
      have e1 := hz vs h1
      have e2 := hz2 ws h3
      rw [hv] at e1
      rw [hw] at e2
      cases e1
      cases e2
      exact pair_new hT r hr hs
theorem drives_rng {W : Wd} {ρ : List Addr} {H : Hp} {n : Nat} : Drives W (Itr 0 n) ρ H (.fix ((List.range n).map fun i => D.int (i : Nat))) := fun ρ' H' st i e r _ => by
  dsimp only [Src.at]
  rw [List.getElem?_map]
  by_cases hi : i < n
  · rw [List.getElem?_range hi]
    refine ⟨hi, fun x H2 y => ?_⟩
    obtain ⟨rfl, rfl⟩ := y
    refine ⟨Ext.refl, r, rep_int.mpr ?_⟩
    rw [Int.zero_add]
  · rw [List.getElem?_eq_none (by rw [List.length_range]; exact Nat.le_of_not_lt hi)]
    exact Nat.le_of_not_lt hi
theorem drives_str {W : Wd} {ρ : List Addr} {H : Hp} {s : Str} : Drives W (Its s) ρ H (.fix (s.cps.toList.map fun c => D.str ⟨#[c]⟩)) := fun ρ' H' st i e r _ => by
  dsimp only [Src.at]
  rw [List.getElem?_map]
  cases hc : s.cps.toList[i]? with
  | none =>
    have := List.getElem?_eq_none_iff.mp hc
    show s.cps.size ≤ i
    simpa using this
  | some c =>
    have hlt := (List.getElem?_eq_some_iff.mp hc).1
    refine ⟨show i < s.cps.size by simpa using hlt, fun x H2 y => ?_⟩
    obtain ⟨rfl, c', hc', rfl⟩ := y
    refine ⟨Ext.refl, r, rep_str.mpr ?_⟩
    rw [← Array.getElem?_toList, hc] at hc'
    cases hc'
    rfl
end Dp
set_option Elab.async false
set_option linter.all false
set_option maxRecDepth 100000
set_option maxHeartbeats 4000000
/-! DpZ: zip of two walked things of any kinds: lists, tuples, texts. -/
namespace Dp
open PySem PySem.Spec PyProof.Rows L2

/-- a walked thing -/
inductive Sd where
  | l (a : Addr) | t (a : Addr) | s (x : Str)
def Sd.fp : Sd → List Addr
  | .l a => [a] | .t a => [a] | .s _ => []
def Sd.val : Sd → V
  | .l a => .ref a | .t a => .ref a | .s x => .str x
def Sd.at (K : PySem.W.Frag) (H : Hp) : Sd → Nat → V → Prop
  | .l a, i, v => ∃ xs, SqL K H a xs ∧ xs[i]? = some v
  | .t a, i, v => ∃ xs, SqT K H a xs ∧ xs[i]? = some v
  | .s x, i, v => ∃ c, x.cps[i]? = some c ∧ v = .str ⟨#[c]⟩
def Sd.len (K : PySem.W.Frag) (H : Hp) : Sd → Nat → Prop
  | .l a, n => ∃ xs, SqL K H a xs ∧ xs.length = n
  | .t a, n => ∃ xs, SqT K H a xs ∧ xs.length = n
  | .s x, n => x.cps.size = n
def Sd.itr (t : Tok) (h : Heap) (it : Addr) : Sd → Nat → Prop
  | .l a, i => h.IsListIter it a i
  | .t a, i => h.IsTupleIter it a i
  | .s x, i => h.IsStrIter it (strIterType x) x t i
theorem Sd.itr_at {t : Tok} {h h' : Heap} {it : Addr} {sd : Sd} {i : Nat} (k : ∀ o, h.get? it = some o → h'.get? it = some o) (x : sd.itr t h it i) : sd.itr t h' it i := by
  cases sd with
  | l a => exact Heap.IsListIter.at x k
  | t a => exact Heap.IsTupleIter.at x k
  | s y => obtain ⟨o, ho, r⟩ := x; exact ⟨o, k o ho, r⟩
theorem Sd.itr_obj {t : Tok} {h : Heap} {it : Addr} {sd : Sd} {i : Nat} (x : sd.itr t h it i) : ∃ o, h.get? it = some o ∧ ∀ v, o.data ≠ .cell v := by
  cases sd with
  | l a => obtain ⟨o, e, _, d⟩ := x; exact ⟨o, e, fun v q => by rw [d] at q; cases q⟩
  | t a => obtain ⟨o, e, _, d⟩ := x; exact ⟨o, e, fun v q => by rw [d] at q; cases q⟩
  | s y => obtain ⟨o, e, _, d⟩ := x; exact ⟨o, e, fun v q => by rw [d] at q; cases q⟩
section
variable {X : Cx} {pins : List (Addr × Obj)} {σ : L2.St} {H : Hp} {s : Shared}
theorem Sd.draws {A : Around} (hh : A.handled = none) (I : Inv X pins σ H s) (sd : Sd) (it : Addr) (hne : it ∉ sd.fp) {n : Nat} (hl : sd.len X.K H n) (t : Tok) :
    ∃ (P : Nat → Value → Prop) (St : Nat → Heap → Prop), Draws X.prog X.w A it (it :: sd.fp) n P St ∧ (∀ i, sd.itr t s.heap it i → St i s.heap) ∧ (∀ i h, St i h → sd.itr t h it i) ∧
      (∀ i v, P i v → ∃ x, RelV x v ∧ sd.at X.K H i x ∧ ∀ x', sd.at X.K H i x' → x' = x) := by
  cases sd with
  | l a =>
    obtain ⟨xs, hx, rfl⟩ := hl
    obtain ⟨its, rv, p, _⟩ := I.list hx
    have e : its.toArray.size = xs.length := by rw [List.size_toArray, rv.length]
    refine ⟨_, _, e ▸ Draws.list hh it a (fun z => hne (by rw [← z]; exact List.mem_singleton_self _)) its.toArray, fun i hi => ⟨hi, p.isList⟩, fun i h hs => hs.1, fun i v hv => ?_⟩
    have hv' : its[i]? = some v := by simpa using hv
    have hlt : i < xs.length := by rw [rv.length]; exact (List.getElem?_eq_some_iff.mp hv').1
    obtain ⟨u, hu, ru⟩ := rv.get (List.getElem?_eq_getElem hlt)
    rw [hv'] at hu
    cases hu
    refine ⟨_, ru, ⟨xs, hx, List.getElem?_eq_getElem hlt⟩, fun x' ⟨ys, hy, hz⟩ => ?_⟩
    rw [I.list_inj hy hx, List.getElem?_eq_getElem hlt] at hz
    cases hz
    rfl
  | t a =>
    obtain ⟨xs, hx, rfl⟩ := hl
    obtain ⟨its, rv, p, _⟩ := I.tuple hx
    have e : its.toArray.size = xs.length := by rw [List.size_toArray, rv.length]
    refine ⟨_, _, e ▸ Draws.tuple hh it a (fun z => hne (by rw [← z]; exact List.mem_singleton_self _)) its.toArray, fun i hi => ⟨hi, p⟩, fun i h hs => hs.1, fun i v hv => ?_⟩
    have hv' : its[i]? = some v := by simpa using hv
    have hlt : i < xs.length := by rw [rv.length]; exact (List.getElem?_eq_some_iff.mp hv').1
    obtain ⟨u, hu, ru⟩ := rv.get (List.getElem?_eq_getElem hlt)
    rw [hv'] at hu
    cases hu
    refine ⟨_, ru, ⟨xs, hx, List.getElem?_eq_getElem hlt⟩, fun x' ⟨ys, hy, hz⟩ => ?_⟩
    rw [I.tuple_inj hy hx, List.getElem?_eq_getElem hlt] at hz
    cases hz
    rfl
  | s x =>
    have hl' : x.cps.size = n := hl
    subst hl'
    refine ⟨_, _, Draws.text hh it x t, fun i hi => hi, fun i h hs => hs, fun i v hv => ?_⟩
    obtain ⟨c, u, hc, rfl⟩ := hv
    refine ⟨.str ⟨#[c]⟩, ⟨u, rfl⟩, ⟨c, hc, rfl⟩, fun x' ⟨c', hc', e⟩ => ?_⟩
    rw [hc] at hc'
    cases hc'
    exact e
theorem Sd.begins (I : Inv X pins σ H s) (sd : Sd) {u : Value} (r : RelV sd.val u) {n : Nat} (hl : sd.len X.K H n) :
    ∃ (o : Obj) (Hh : Heap → Prop) (t : Tok), Begins u o Hh ∧ Hh s.heap ∧ (∀ h it, h.get? it = some o → sd.itr t h it 0) ∧ ∀ b ∈ sd.fp, b < s.heap.objs.size := by
  cases sd with
  | l a =>
    cases r
    obtain ⟨xs, hx, rfl⟩ := hl
    obtain ⟨its, rv, p, _⟩ := I.list hx
    exact ⟨_, _, 0, begins_list a its.toArray, p.isList, fun h it e => ⟨_, e, rfl, rfl⟩, fun b hb => by rw [List.mem_singleton.mp hb]; exact p.lt⟩
  | t a =>
    cases r
    obtain ⟨xs, hx, rfl⟩ := hl
    obtain ⟨its, rv, p, _⟩ := I.tuple hx
    obtain ⟨o1, ho1, _⟩ := id p
    exact ⟨_, _, 0, begins_tuple a its.toArray, p, fun h it e => ⟨_, e, rfl, rfl⟩, fun b hb => by rw [List.mem_singleton.mp hb]; exact Heap.lt_size ho1⟩
  | s x =>
    obtain ⟨t, rfl⟩ := r
    exact ⟨_, _, t, begins_text x t, trivial, fun h it e => ⟨_, e, rfl, rfl⟩, fun b hb => by cases hb⟩
end
theorem Sd.at_len {K : PySem.W.Frag} {H : Hp} {sd : Sd} {i : Nat} {x : V} (h : sd.at K H i x) : ∃ n, sd.len K H n ∧ i < n := by
  cases sd with
  | l a => obtain ⟨xs, h1, h2⟩ := h; exact ⟨_, ⟨xs, h1, rfl⟩, (List.getElem?_eq_some_iff.mp h2).1⟩
  | t a => obtain ⟨xs, h1, h2⟩ := h; exact ⟨_, ⟨xs, h1, rfl⟩, (List.getElem?_eq_some_iff.mp h2).1⟩
  | s x => obtain ⟨c, h1, h2⟩ := h; exact ⟨_, rfl, (Array.getElem?_eq_some_iff.mp h1).1⟩
/-- two walked things as they stand at each turn, the items in new pairs -/
def ItM (K : PySem.W.Frag) (a b : Sd) : It :=
  ⟨fun i H => (∃ x, a.at K H i x) ∧ ∃ y, b.at K H i y,
    fun i H v H' => ∃ T x y, v = .ref T ∧ H T = none ∧ H' = upd H T (.tup [x, y]) ∧ (∀ x', a.at K H i x' → x' = x) ∧ ∀ y', b.at K H i y' → y' = y,
    fun i H => ∃ n m, a.len K H n ∧ b.len K H m ∧ i = min n m⟩
theorem turn_zipM {P : Program} {w : World} {K : PySem.W.Frag} {elts : List Expr} {kk : Nat} {tpos : Pos} {a b : Sd} {z TI TO i1 i2 : Addr} {t1 t2 : Tok} (S : ZipSep2 z TI TO i1 i2 (i1 :: a.fp) (i2 :: b.fp)) (n1 : i1 ∉ a.fp) (n2 : i2 ∉ b.fp) :
    Turn P w K (.Tuple elts kk tpos) (ItM K a b) [z, TI, TO, i1, i2] z (fun i h => IsZip h z TI TO .none ∧ IsTupOf2 h TI (.ref i1) (.ref i2) ∧ (∃ x y, IsTupOf2 h TO x y) ∧ a.itr t1 h i1 i ∧ b.itr t2 h i2 i) where
  mem := by simp
  obj := fun i h st c hc => by
    obtain ⟨hz, hTI, ⟨x, y, hTO⟩, h1, h2⟩ := st
    have e' : c = z ∨ c = TI ∨ c = TO ∨ c = i1 ∨ c = i2 := by simpa using hc
    rcases e' with q | q | q | q | q
    · rw [q]; exact ⟨_, hz, fun v q => nomatch q⟩
    · rw [q]; exact ⟨_, hTI, fun v q => nomatch q⟩
    · rw [q]; exact ⟨_, hTO, fun v q => nomatch q⟩
    · rw [q]; exact Sd.itr_obj h1
    · rw [q]; exact Sd.itr_obj h2
  keep := fun i h h' st k => by
    obtain ⟨hz, hTI, ⟨x, y, hTO⟩, h1, h2⟩ := st
    exact ⟨k z (by simp) _ hz, k TI (by simp) _ hTI, ⟨x, y, k TO (by simp) _ hTO⟩, Sd.itr_at (fun o q => k i1 (by simp) o q) h1, Sd.itr_at (fun o q => k i2 (by simp) o q) h2⟩
  item := by
    intro X hP hw hK hc i pins s σ H E I hf st hg
    subst hP hw hK
    obtain ⟨hz, hTI, hTO, h1, h2⟩ := st
    obtain ⟨⟨x, hx⟩, y, hy⟩ := hg
    obtain ⟨m1, l1, lt1⟩ := Sd.at_len hx
    obtain ⟨m2, l2, lt2⟩ := Sd.at_len hy
    have hh : X.A.in1.handled = none := I.ok.hd hc
    obtain ⟨P1, St1, D1, a1, b1, c1⟩ := Sd.draws hh I a i1 n1 l1 t1
    obtain ⟨P2, St2, D2, a2, b2, c2⟩ := Sd.draws hh I b i2 n2 l2 t2
    refine (GoesN.zip2 (elts := elts) (x1 := kk) (pos := tpos) S D1 D2).goes i s (fun u s2 => ∃ x H', Inv X pins σ H' s2 ∧ RelV x u ∧ (ItM X.K a b).yld i H x H' ∧ (IsZip s2.heap z TI TO .none ∧ IsTupOf2 s2.heap TI (.ref i1) (.ref i2) ∧ (∃ x y, IsTupOf2 s2.heap TO x y) ∧ a.itr t1 s2.heap i1 (i + 1) ∧ b.itr t2 s2.heap i2 (i + 1)) ∧ ∀ b ∈ [z, TI, TO, i1, i2], H' b = none) E (Nat.lt_min.mpr ⟨lt1, lt2⟩) ⟨hz, hTI, hTO, a1 i h1, a2 i h2⟩ fun v h' tk hY st' hk htk => ?_
    obtain ⟨T, u1, u2, rfl, hT, p1, p2, hTt⟩ := hY
    obtain ⟨x1, r1, _, f1⟩ := c1 i u1 p1
    obtain ⟨x2, r2, _, f2⟩ := c2 i u2 p2
    obtain ⟨hz', hTI', hTO', s1', s2'⟩ := st'
    have new : ObjOk X.prog X.w (upd H T (.tup [x1, x2])) h' T (.tup [x1, x2]) := ⟨by show 2 ≤ sizeLine; decide, [u1, u2], .cons r1 (.cons r2 .nil), hTt⟩
    have I1 : Inv X pins σ (upd H T (.tup [x1, x2])) { s with heap := h', toks := tk } :=
      I.turnedNew (t' := tk) (ch := [z, TI, TO, i1, i2]) (fun c o hb q => hk c o (fun hm => hb (by
        have hm' : c = z ∨ c = TO ∨ c = i1 ∨ c = i2 := by simpa using hm
        rcases hm' with q | q | q | q <;> simp [q])) q) hf hT new
    refine ⟨.ref T, _, I1, rfl, ⟨T, x1, x2, rfl, I.hok.fresh hT, rfl, f1, f2⟩, ⟨hz', hTI', hTO', b1 _ _ s1', b2 _ _ s2'⟩, fun c hcm => ?_⟩
    have hlt : c < s.heap.objs.size := by
      have e' : c = z ∨ c = TI ∨ c = TO ∨ c = i1 ∨ c = i2 := by simpa using hcm
      obtain ⟨_, _, hTO0⟩ := hTO
      rcases e' with q | q | q | q | q
      · rw [q]; exact Heap.lt_size hz
      · rw [q]; exact Heap.lt_size hTI
      · rw [q]; exact Heap.lt_size hTO0
      · rw [q]; obtain ⟨_, e1, _⟩ := Sd.itr_obj h1; exact Heap.lt_size e1
      · rw [q]; obtain ⟨_, e2, _⟩ := Sd.itr_obj h2; exact Heap.lt_size e2
    rw [upd_ne (Nat.ne_of_lt (Nat.lt_of_lt_of_le hlt hT))]
    exact (hf c hcm).1
  done := by
    intro X hP hw hK hc i pins s σ H E I hf st hg
    subst hP hw hK
    obtain ⟨hz, hTI, hTO, h1, h2⟩ := st
    obtain ⟨m1, m2, l1, l2, rfl⟩ := hg
    have hh : X.A.in1.handled = none := I.ok.hd hc
    obtain ⟨P1, St1, D1, a1, b1, c1⟩ := Sd.draws hh I a i1 n1 l1 t1
    obtain ⟨P2, St2, D2, a2, b2, c2⟩ := Sd.draws hh I b i2 n2 l2 t2
    refine (GoesN.zip2 (elts := elts) (x1 := kk) (pos := tpos) S D1 D2).stops s (fun s1 => Inv X pins σ H s1) E ⟨hz, hTI, hTO, a1 _ h1, a2 _ h2⟩ fun h' tk hk htk => ?_
    exact I.turnedL (t' := tk) (ch := [z, TI, TO, i1, i2]) (fun c o hb q => hk c o (fun hm => hb (by
      have hm' : c = z ∨ c = TO ∨ c = i1 ∨ c = i2 := by simpa using hm
      rcases hm' with q | q | q | q <;> simp [q])) q) hf
  self := fun A i s Q E st h => wpAny_pyIter_zip st.1 h
def iZipM (K : PySem.W.Frag) (ta : TA) : TI := fun σ H R => ta σ H fun vs H1 => ∃ (a b : Sd) (n m : Nat), vs = [a.val, b.val] ∧ a.len K H1 n ∧ b.len K H1 m ∧ R (ItM K a b) H1
theorem pi_zipM {X : Cx} {e e2 : Expr} {ta : TA} {p pos tpos : Pos} {elts : List Expr} {kk : Nat} (hg : Gl X "zip") (hm : X.mg "zip" = none) (ha : PA X [e, e2] ta)
    (hs : starEach [e, e2] X.env = (false, eval e X.env) :: starEach [e2] X.env) (hpl : (backTo pos (starEach [e2] X.env)).any (·.1) = false) :
    PI X (.Tuple elts kk tpos) (.Call (.Name "zip" p) [e, e2] [] pos) (iZipM X.K ta) := by
  refine ⟨fun pins s σ H R I h => ?_⟩
  refine Call_ (ld_blt I hg hm PyProof.Rows.boot_zip (PyProof.Rows.callWith_type1 (thn (ha.run pos pins s σ H _ I h) fun us s1 ⟨vs, H1, I1, r1, q1⟩ => ?_) hs hpl))
  obtain ⟨a, b, n, m, ex, l1, l2, q⟩ := q1
  subst ex
  cases r1 with
  | cons r rr =>
    cases rr with
    | cons r' rr =>
      cases rr
      obtain ⟨o1, K1, t1, B1, k1, j1, f1⟩ := Sd.begins I1 a r l1
      obtain ⟨o2, K2, t2, B2, k2, j2, f2⟩ := Sd.begins I1 b r' l2
      refine zip_begins2 B1 B2 k1 k2 fun h' hz hTI hTO h1 h2 hsz hk => wpAny_pyIter_zip hz ?_
      have I2 : Inv X pins σ H1 { s1 with heap := h' } := I1.kept (t' := s1.toks) hk
      refine ⟨s1.heap.objs.size + 4, [s1.heap.objs.size + 4, s1.heap.objs.size + 2, s1.heap.objs.size + 3, s1.heap.objs.size, s1.heap.objs.size + 1], _, _, H1, rfl, I2,
        turn_zipM (t1 := t1) (t2 := t2) (zip_sep2 f1 f2) (fun z => absurd (f1 _ z) (Nat.lt_irrefl _)) (fun z => absurd (f2 _ z) (Nat.not_lt_of_le (Nat.le_succ _))), ⟨hz, hTI, ⟨_, _, hTO⟩, j1 _ _ h1, j2 _ _ h2⟩, fun c hcm => ?_, q⟩
      have e' : c = s1.heap.objs.size + 4 ∨ c = s1.heap.objs.size + 2 ∨ c = s1.heap.objs.size + 3 ∨ c = s1.heap.objs.size ∨ c = s1.heap.objs.size + 1 := by simpa using hcm
      have hle : s1.heap.objs.size ≤ c := by
        rcases e' with z | z | z | z | z
        · rw [z]; exact Nat.le_add_right _ _
        · rw [z]; exact Nat.le_add_right _ _
        · rw [z]; exact Nat.le_add_right _ _
        · rw [z]; exact Nat.le_refl _
        · rw [z]; exact Nat.le_add_right _ _
      exact I1.fpOk hle (I1.hok.fresh hle)

/-! the sources -/
/-- what is walked, as data -/
def sdOf (st : Store) : D → Option Src
  | .tup ds => some (.fix ds)
  | .str s => some (.fix (s.cps.toList.map fun c => D.str ⟨#[c]⟩))
  | .ref n => match (st[n]?).bind Cell.items with
    | some _ => some (.dyn n)
    | none => none
  | _ => none
/-- the walked thing and the source go together -/
def Walk (W : Wd) (ρ0 : List Addr) (H0 : Hp) (sd : Sd) (src : Src) : Prop := ∀ ρ H st n, Ext W ρ0 H0 ρ H → Rel W ρ st H → src.size st = some n → sd.len W.K H n ∧ ∀ i d, src.at st i = some d → ∃ x, sd.at W.K H i x ∧ Rep W ρ H d x
theorem sd_ok {W : Wd} {ρ : List Addr} {H : Hp} {st : Store} {d : D} {v : V} {src : Src} (r : Rel W ρ st H) (hd : Rep W ρ H d v) (h : sdOf st d = some src) : ∃ sd : Sd, v = sd.val ∧ (∃ n, sd.len W.K H n) ∧ Walk W ρ H sd src := by
  unfold sdOf at h
  split at h
  · cases h
    obtain ⟨a, vs, rfl, h1, h2⟩ := rep_tup.mp hd
    refine ⟨.t a, rfl, ⟨_, vs, h1, rfl⟩, fun ρ' H' st' n e r' hn => ?_⟩
    cases hn
    have h1' := e.tup a vs h1
    have h2' := Reps.mono e _ _ h2
    refine ⟨⟨vs, h1', h2'.length⟩, fun i d hd => ?_⟩
    obtain ⟨v, hv, hr⟩ := h2'.get hd
    exact ⟨v, ⟨vs, h1', hv⟩, hr⟩
  · rename_i s
    cases h
    cases rep_str.mp hd
    refine ⟨.s s, rfl, ⟨_, rfl⟩, fun ρ' H' st' n e r' hn => ?_⟩
    dsimp only [Src.size] at hn
    refine ⟨?_, fun i d hd => ?_⟩
    · have hn' := Option.some.inj hn
      rw [List.length_map] at hn'
      show s.cps.size = n
      rw [← hn']
      simp
    · dsimp only [Src.at] at hd
      rw [List.getElem?_map] at hd
      cases hc : s.cps.toList[i]? with
      | none => rw [hc] at hd; cases hd
      | some c =>
        rw [hc] at hd
        cases hd
        exact ⟨.str ⟨#[c]⟩, ⟨c, by rw [← Array.getElem?_toList]; exact hc, rfl⟩, rep_str.mpr rfl⟩
  · rename_i n
    split at h
    · rename_i ds hi
      cases h
      obtain ⟨a, rfl, h0⟩ := rep_ref.mp hd
      obtain ⟨vs, h1, h2⟩ := dyn_at h0 Ext.refl r hi
      refine ⟨.l a, rfl, ⟨_, vs, h1, rfl⟩, fun ρ' H' st' m e r' hn => ?_⟩
      dsimp only [Src.size] at hn
      cases hj : (st'[n]?).bind Cell.items with
      | none => rw [hj] at hn; cases hn
      | some es =>
        rw [hj] at hn
        cases hn
        obtain ⟨ws, k1, k2⟩ := dyn_at h0 e r' hj
        refine ⟨⟨ws, k1, k2.length⟩, fun i d hd => ?_⟩
        dsimp only [Src.at] at hd
        rw [hj] at hd
        obtain ⟨v, hv, hr⟩ := k2.get (show es[i]? = some d from hd)
        exact ⟨v, ⟨ws, k1, hv⟩, hr⟩
    · cases h
  · cases h
theorem drives_zipM {W : Wd} {ρ : List Addr} {H : Hp} {a b : Sd} {sa sb : Src} {n m : Nat} (h1 : Walk W ρ H a sa) (h2 : Walk W ρ H b sb) (hsz : ∀ st i d, sa.at st i = some d → ∃ k, sa.size st = some k ∧ i < k) (hsz2 : ∀ st i d, sb.at st i = some d → ∃ k, sb.size st = some k ∧ i < k)
    (hf1 : ∀ st i k, sa.size st = some k → i < k → ∃ d, sa.at st i = some d) (hf2 : ∀ st i k, sb.size st = some k → i < k → ∃ d, sb.at st i = some d) : Drives W (ItM W.K a b) ρ H (.zipm n m sa sb) := fun ρ' H' st i e r g => by
  dsimp only [Src.good] at g
  simp only [Bool.and_eq_true, decide_eq_true_eq] at g
  obtain ⟨⟨⟨g1, g2⟩, g3⟩, g4⟩ := g
  obtain ⟨l1, f1⟩ := h1 ρ' H' st n e r g1
  obtain ⟨l2, f2⟩ := h2 ρ' H' st m e r g2
  dsimp only [Src.at]
  cases hd : sa.at st i with
  | none =>
    have : n ≤ i := Nat.le_of_not_lt fun z => by
      obtain ⟨d, q⟩ := hf1 st i n g1 z
      rw [hd] at q
      cases q
    exact ⟨n, m, l1, l2, by omega⟩
  | some d =>
    cases he : sb.at st i with
    | none =>
      have : m ≤ i := Nat.le_of_not_lt fun z => by
        obtain ⟨d, q⟩ := hf2 st i m g2 z
        rw [he] at q
        cases q
      exact ⟨n, m, l1, l2, by omega⟩
    | some d2 =>
      obtain ⟨x, hx, hr⟩ := f1 i d hd
      obtain ⟨y, hy, hs⟩ := f2 i d2 he
      refine ⟨⟨⟨x, hx⟩, y, hy⟩, fun v H2 q => ?_⟩
      obtain ⟨T, z, z2, rfl, hT, rfl, hz, hz2⟩ := q
      have e1 := hz x hx
      have e2 := hz2 y hy
      subst e1 e2
      exact pair_new hT r hr hs
theorem sd_size {st0 : Store} {d : D} {src : Src} (h : sdOf st0 d = some src) : (∀ st i d, src.at st i = some d → ∃ k, src.size st = some k ∧ i < k) ∧ ∀ st i k, src.size st = some k → i < k → ∃ d, src.at st i = some d := by
  have fix : ∀ ds : List D, (∀ st i d, Src.at st (.fix ds) i = some d → ∃ k, Src.size st (.fix ds) = some k ∧ i < k) ∧ ∀ st i k, Src.size st (.fix ds) = some k → i < k → ∃ d, Src.at st (.fix ds) i = some d := fun ds =>
    ⟨fun st i d q => ⟨_, rfl, (List.getElem?_eq_some_iff.mp q).1⟩, fun st i k q hi => by cases q; exact ⟨_, List.getElem?_eq_getElem hi⟩⟩
  unfold sdOf at h
  split at h
  · cases h; exact fix _
  · cases h; exact fix _
  · rename_i n
    split at h
    · cases h
      refine ⟨fun st i d q => ?_, fun st i k q hi => ?_⟩
      · dsimp only [Src.at] at q
        cases hj : (st[n]?).bind Cell.items with
        | none => rw [hj] at q; cases q
        | some es =>
          rw [hj] at q
          exact ⟨es.length, by dsimp only [Src.size]; rw [hj]; rfl, (List.getElem?_eq_some_iff.mp (show es[i]? = some d from q)).1⟩
      · dsimp only [Src.size] at q
        cases hj : (st[n]?).bind Cell.items with
        | none => rw [hj] at q; cases q
        | some es =>
          rw [hj] at q
          cases q
          exact ⟨es[i]'hi, by dsimp only [Src.at]; rw [hj]; exact List.getElem?_eq_getElem hi⟩
    · cases h
  · cases h
end Dp
set_option Elab.async false
set_option linter.all false
set_option maxRecDepth 100000
set_option maxHeartbeats 4000000
/-! Dp7: iterables, targets, comprehensions. -/
namespace Dp
open PySem PySem.Spec PyProof.Rows L2

def srcOf (x : D) (st : Store) : Out Src :=
  match x with
  | .tup ds => .ok (.fix ds) st
  | .str s => .ok (.fix (s.cps.toList.map fun c => D.str ⟨#[c]⟩)) st
  | .ref n => match (st[n]?).bind Cell.items with
    | some _ => .ok (.dyn n) st
    | none => .bad
  | _ => .bad
def mSrc (a : EM) : SM := fun env st => (a env st).bind srcOf
def mRange (a : AM) : SM := fun env st => (a env st).bind fun xs s1 => match xs with
  | [.int j] => if -1000 ≤ j ∧ j ≤ big then .ok (.fix ((List.range j.toNat).map fun i => D.int (i : Nat))) s1 else .bad
  | _ => .bad
def mEnum (a : AM) : SM := fun env st => (a env st).bind fun xs s1 => match xs with
  | [.ref n] => match (s1[n]?).bind Cell.items with
    | some _ => .ok (.enum n) s1
    | none => .bad
  | _ => .bad
def mZip (a : AM) : SM := fun env st => (a env st).bind fun xs s1 => match xs with
  | [x, y] => match sdOf s1 x, sdOf s1 y with
    | some a, some b => match a.size s1, b.size s1 with
      | some n, some m => .ok (.zipm n m a b) s1
      | _, _ => .bad
    | _, _ => .bad
  | _ => .bad
section
variable {X : Cx} {E : XK} {tg a b : Expr} {ma : EM} {la : AM} {pos p : Pos}
theorem pi_valD (ha : PE X a (T (Wof X) E ma)) : PI X tg a (TIt (Wof X) E (mSrc ma)) := by
  refine ⟨fun pins s σ H R I h => ?_⟩
  obtain ⟨ρ, env, st, hE, hR, hP⟩ := h
  unfold mSrc at hP
  cases ho : ma env st with
  | bad => rw [ho] at hP; exact hP.elim
  | exn c fs st1 =>
    rw [ho] at hP
    exact (pi_tup ha).run pins s σ H R I ⟨ρ, env, st, hE, hR, by rw [ho]; exact hP⟩
  | ok d st1 =>
    rw [ho] at hP
    dsimp only [Out.bind] at hP
    cases d with
    | tup ds =>
      refine (pi_tup ha).run pins s σ H R I ⟨ρ, env, st, hE, hR, ?_⟩
      rw [ho]
      intro ρ1 H1 v e r p1
      obtain ⟨q, vs, rfl, h1, h2⟩ := rep_tup.mp p1
      exact ⟨q, rfl, ⟨vs, h1⟩, hP ρ1 H1 _ e r (drives_tup h1 h2)⟩
    | str z =>
      refine (pi_str ha).run pins s σ H R I ⟨ρ, env, st, hE, hR, ?_⟩
      rw [ho]
      intro ρ1 H1 v e r p1
      cases rep_str.mp p1
      exact ⟨z, rfl, hP ρ1 H1 _ e r drives_str⟩
    | ref n =>
      dsimp only [srcOf] at hP
      split at hP
      · rename_i ds ei
        refine (pi_list ha).run pins s σ H R I ⟨ρ, env, st, hE, hR, ?_⟩
        rw [ho]
        intro ρ1 H1 v e r p1
        obtain ⟨q, rfl, h0⟩ := rep_ref.mp p1
        obtain ⟨q', vs, eq, h1, h2⟩ := itm_at r p1 ei
        cases eq
        exact ⟨q, rfl, ⟨vs, h1⟩, hP ρ1 H1 _ e r (drives_lst h0)⟩
      · exact hP.elim
    | _ => exact hP.elim
theorem piT {iter : Expr} {w w' : TI} (h : ∀ σ H R, w' σ H R → w σ H R) (hp : PI X tg iter w) : PI X tg iter w' := ⟨fun pins s σ H R I q => hp.run pins s σ H R I (h σ H R q)⟩
theorem pi_rangeD (hg : Gl X "range") (hm : X.mg "range" = none) (ha : PA X [a] (TAr (Wof X) E la)) (hs : starEach [a] X.env = [(false, eval a X.env)]) : PI X tg (.Call (.Name "range" p) [a] [] pos) (TIt (Wof X) E (mRange la)) :=
  piT (fun σ H R ⟨ρ, env, st, hE, hR, hP⟩ => ⟨ρ, env, st, hE, hR, bindT hP fun ρ1 H1 d1 v1 st1 e1 r1 p1 hP1 => by
    split at hP1
    · rename_i j
      simp only [Reps] at p1
      obtain ⟨x, t, rfl, hx, rfl⟩ := p1
      cases rep_int.mp hx
      split at hP1
      · rename_i hj
        refine ⟨j, rfl, by omega, ?_, hP1 ρ1 H1 _ Ext.refl r1 drives_rng⟩
        have : (big : Int) < 2 ^ 62 := by decide
        omega
      · exact hP1.elim
    · exact hP1.elim⟩) (pi_range1 hg hm ha hs)
theorem pi_enumD {elts : List Expr} {kk : Nat} {tpos : Pos} (hg : Gl X "enumerate") (hm : X.mg "enumerate" = none) (ha : PA X [a] (TAr (Wof X) E la)) (hs : starEach [a] X.env = [(false, eval a X.env)]) : PI X (.Tuple elts kk tpos) (.Call (.Name "enumerate" p) [a] [] pos) (TIt (Wof X) E (mEnum la)) :=
  piT (fun σ H R ⟨ρ, env, st, hE, hR, hP⟩ => ⟨ρ, env, st, hE, hR, bindT hP fun ρ1 H1 d1 v1 st1 e1 r1 p1 hP1 => by
    split at hP1
    · rename_i n
      simp only [Reps] at p1
      obtain ⟨x, t, rfl, hx, rfl⟩ := p1
      split at hP1
      · rename_i ds ei
        obtain ⟨q, rfl, h0⟩ := rep_ref.mp hx
        obtain ⟨q', vs, eq, h1, h2⟩ := itm_at r1 hx ei
        cases eq
        exact ⟨q, vs, rfl, h1, hP1 ρ1 H1 _ Ext.refl r1 (drives_enum h0)⟩
      · exact hP1.elim
    · exact hP1.elim⟩) (pi_enum hg hm ha hs)
theorem pi_zipD {elts : List Expr} {kk : Nat} {tpos : Pos} (hg : Gl X "zip") (hm : X.mg "zip" = none) (ha : PA X [a, b] (TAr (Wof X) E la)) (hs : starEach [a, b] X.env = (false, eval a X.env) :: starEach [b] X.env) (hpl : (backTo pos (starEach [b] X.env)).any (·.1) = false) :
    PI X (.Tuple elts kk tpos) (.Call (.Name "zip" p) [a, b] [] pos) (TIt (Wof X) E (mZip la)) :=
  piT (fun σ H R ⟨ρ, env, st, hE, hR, hP⟩ => ⟨ρ, env, st, hE, hR, bindT hP fun ρ1 H1 d1 v1 st1 e1 r1 p1 hP1 => by
    split at hP1
    · rename_i dx dy
      simp only [Reps] at p1
      obtain ⟨x, t, rfl, hx, y, t', rfl, hy, rfl⟩ := p1
      split at hP1
      · rename_i sa sb ea eb
        obtain ⟨da, rfl, ⟨na, la'⟩, wa⟩ := sd_ok r1 hx ea
        obtain ⟨db, rfl, ⟨nb, lb'⟩, wb⟩ := sd_ok r1 hy eb
        split at hP1
        · obtain ⟨z1, z2⟩ := sd_size ea
          obtain ⟨z3, z4⟩ := sd_size eb
          exact ⟨da, db, na, nb, rfl, la', lb', hP1 ρ1 H1 _ Ext.refl r1 (drives_zipM wa wb z1 z3 z2 z4)⟩
        · exact hP1.elim
      · exact hP1.elim
    · exact hP1.elim⟩) (pi_zipM hg hm ha hs hpl)
end

/-! ### targets -/
inductive Tg where
  | one (i : Nat) | many (is : List Nat)
def Tg.slots : Tg → List Nat
  | .one i => [i]
  | .many is => is
def setAll {α : Type} : List (Option α) → List Nat → List α → List (Option α)
  | env, i :: is, d :: ds => setAll (env.set i (some d)) is ds
  | env, _, _ => env
def bindTg (t : Tg) (d : D) (env : Slt) (st : Store) : Option Slt :=
  match t with
  | .one i => some (env.set i (some d))
  | .many is => match itemsOf st d with
    | some ds => if ds.length = is.length then some (setAll env is ds) else none
    | none => none
def gNames : List Nat → TGs
  | [] => gNil
  | i :: is => gCons (gName i) (gNames is)
def gTg (K : PySem.W.Frag) : Tg → TG
  | .one i => gName i
  | .many is => fun v σ H Q => gTup K is.length (gNames is) v σ H Q ∨ gUnl K is.length (gNames is) v σ H Q
theorem gNames_ok {Q : L2.St → Hp → Prop} {H : Hp} : ∀ {is : List Nat} {vs : List V} {σ : L2.St}, vs.length = is.length → Q (setAll σ is vs) H → gNames is vs σ H Q
  | [], [], σ, _, q => ⟨rfl, q⟩
  | i :: is, v :: vs, σ, h, q => ⟨v, vs, rfl, gNames_ok (by simpa using h) q⟩
theorem setAll_ok {W : Wd} {ρ : List Addr} {H : Hp} : ∀ {is : List Nat} {ds : List D} {vs : List V} {env : Slt} {σ : L2.St}, RelE W ρ H env σ → Reps W ρ H ds vs → RelE W ρ H (setAll env is ds) (setAll σ is vs)
  | [], ds, vs, env, σ, h, r => by
    cases ds <;> cases vs <;> exact h
  | i :: is, [], vs, env, σ, h, r => by
    simp only [Reps] at r
    subst r
    exact h
  | i :: is, d :: ds, vs, env, σ, h, r => by
    simp only [Reps] at r
    obtain ⟨v, w, rfl, r1, r2⟩ := r
    show RelE W ρ H (setAll (env.set i (some d)) is ds) (setAll (σ.set i (some v)) is w)
    exact setAll_ok (h.set r1) r2
theorem wipe_set {σ : L2.St} {i : Nat} {x : Option V} : ∀ {vs : List Nat}, i ∈ vs → wipe (σ.set i x) vs = wipe σ vs
  | v :: vs, h => by
    unfold wipe
    by_cases hv : i = v
    · subst hv
      by_cases hi : i ∈ vs
      · rw [wipe_set hi]
      · have key : ∀ (ws : List Nat) (τ : L2.St), (wipe (τ.set i x) ws).set i none = (wipe τ ws).set i none := fun ws => by
          induction ws with
          | nil => intro τ; unfold wipe; rw [List.set_set]
          | cons w ws ih =>
            intro τ
            unfold wipe
            by_cases hw : i = w
            · subst hw
              rw [ih τ]
            · rw [List.set_comm _ _ (Ne.symm hw), ih τ, List.set_comm _ _ hw]
        exact key vs σ
    · rcases List.mem_cons.mp h with h | h
      · exact absurd h hv
      · rw [wipe_set h]
theorem wipe_setAll : ∀ {is : List Nat} {vs : List V} {σ : L2.St} {ws : List Nat}, (∀ i ∈ is, i ∈ ws) → wipe (setAll σ is vs) ws = wipe σ ws
  | [], vs, σ, ws, _ => by cases vs <;> rfl
  | i :: is, [], σ, ws, _ => rfl
  | i :: is, v :: vs, σ, ws, h => by
    show wipe (setAll (σ.set i (some v)) is vs) ws = _
    rw [wipe_setAll fun j hj => h j (List.mem_cons_of_mem _ hj), wipe_set (h i List.mem_cons_self)]
theorem wipe_wipe {σ : L2.St} : ∀ {vs ws : List Nat}, (∀ i ∈ vs, i ∈ ws) → wipe (wipe σ vs) ws = wipe σ ws
  | [], ws, _ => rfl
  | v :: vs, ws, h => by
    show wipe ((wipe σ vs).set v none) ws = _
    rw [wipe_set (h v List.mem_cons_self), wipe_wipe fun i hi => h i (List.mem_cons_of_mem _ hi)]
theorem bind_ok {K : PySem.W.Frag} {mg : Str → Option Value} {t : Tg} {d : D} {v : V} {env env' : Slt} {st : Store} {ρ : List Addr} {H : Hp} {σ : L2.St} {Q : L2.St → Hp → Prop} (h : bindTg t d env st = some env') (r : Rel ⟨K, mg⟩ ρ st H) (hE : RelE ⟨K, mg⟩ ρ H env σ) (hd : Rep ⟨K, mg⟩ ρ H d v)
    (q : ∀ σ', RelE ⟨K, mg⟩ ρ H env' σ' → (∀ ws, (∀ i ∈ t.slots, i ∈ ws) → wipe σ' ws = wipe σ ws) → Q σ' H) : gTg K t v σ H Q := by
  cases t with
  | one i =>
    cases h
    exact q _ (hE.set hd) fun ws hw => wipe_set (hw i (by simp [Tg.slots]))
  | many is =>
    dsimp only [bindTg] at h
    split at h
    · rename_i ds ei
      split at h
      · rename_i hl
        cases h
        obtain ⟨a, vs, rfl, h1, h2⟩ := items_ok r hd ei
        have hv : vs.length = is.length := h2.length.trans hl
        have hq := gNames_ok (H := H) (Q := Q) (is := is) (vs := vs) (σ := σ) hv (q _ (setAll_ok hE h2) fun ws hw => wipe_setAll hw)
        rcases h1 with h1 | h1
        · exact .inr ⟨a, vs, rfl, h1, hv, hq⟩
        · exact .inl ⟨a, vs, rfl, h1, hv, hq⟩
      · cases h
    · cases h
/-- a name that may be stored -/
structure Sc where
  sc : Scope
  fn : Str → Bool
def slot : List Str → Str → Option Nat
  | [], _ => none
  | y :: ys, x => if y = x then some 0 else (slot ys x).map (· + 1)
theorem slot_ok : ∀ {N : List Str} {x : Str} {i : Nat}, slot N x = some i → N[i]? = some x
  | [], _, _, h => by cases h
  | y :: ys, x, i, h => by
    unfold slot at h
    split at h
    · rename_i e
      cases h
      rw [e]
      rfl
    · cases e : slot ys x with
      | none => rw [e] at h; cases h
      | some j =>
        rw [e] at h
        cases h
        show ys[j]? = some x
        exact slot_ok e
def slotS (N : List Str) (S : Sc) (x : Str) : Option Nat := match S.sc.names.lookup x with
  | some .local => slot N x
  | some .cell => if S.fn x then slot N x else none
  | _ => none
theorem slotS_ok {N : List Str} {S : Sc} {x : Str} {i : Nat} (h : slotS N S x = some i) : N[i]? = some x ∧ Loc S.sc x ∧ (S.fn x = true ∨ S.sc.names.lookup x = some .local) := by
  unfold slotS at h
  split at h
  · rename_i e
    exact ⟨slot_ok h, .inl e, .inr e⟩
  · rename_i e
    split at h
    · rename_i hf
      exact ⟨slot_ok h, .inr e, .inl hf⟩
    · cases h
  · cases h
def slotsOf (N : List Str) (S : Sc) : List Expr → Option (List Nat)
  | [] => some []
  | .Name x _ :: es => match slotS N S x, slotsOf N S es with
    | some i, some is => some (i :: is)
    | _, _ => none
  | _ :: _ => none
def tgOf (N : List Str) (S : Sc) : Expr → Option Tg
  | .Name x _ => (slotS N S x).map .one
  | .Tuple es _ _ => (slotsOf N S es).map .many
  | _ => none
section
variable {X : Cx} {S : Sc}
theorem pgs_names (hN : X.N.Nodup) (h1 : X.env.scope = S.sc) (h2 : X.fn = S.fn) : ∀ {es : List Expr} {is : List Nat}, slotsOf X.N S es = some is → PGs X es (gNames is) ∧ es.length = is.length ∧ (assignEach es X.env).findIdx? (·.1) = none ∧ (assignEach es X.env).length = es.length
  | [], is, h => by
    cases h
    exact ⟨pgs_nil, rfl, rfl, rfl⟩
  | e :: es, is, h => by
    unfold slotsOf at h
    split at h
    · rename_i e0; cases e0
    · rename_i x p es' e0
      cases e0
      split at h
      · rename_i i js ei ej
        cases h
        obtain ⟨a1, a2, a3, a4⟩ := pgs_names hN h1 h2 ej
        obtain ⟨b1, b2, b3⟩ := slotS_ok ei
        refine ⟨pgs_cons (pg_name hN b1 (by rw [h1]; exact b2) (by rw [h1, h2]; exact b3)) a1 rfl, by rw [List.length_cons, List.length_cons, a2], ?_, ?_⟩
        · show ((false, _) :: assignEach es X.env).findIdx? (·.1) = none
          rw [List.findIdx?_cons]
          simp [a3]
        · show (assignEach es X.env).length + 1 = _
          rw [a4]
          rfl
      · cases h
    · cases h
theorem pg_tgD {e : Expr} {t : Tg} (hc : X.calm = true) (hN : X.N.Nodup) (h1 : X.env.scope = S.sc) (h2 : X.fn = S.fn) (h : tgOf X.N S e = some t) : PG X e (gTg X.K t) := by
  unfold tgOf at h
  split at h
  · rename_i x p
    cases ei : slotS X.N S x with
    | none => rw [ei] at h; cases h
    | some i =>
      rw [ei] at h
      cases h
      obtain ⟨b1, b2, b3⟩ := slotS_ok ei
      exact pg_name hN b1 (by rw [h1]; exact b2) (by rw [h1, h2]; exact b3)
  · rename_i es k p
    cases ei : slotsOf X.N S es with
    | none => rw [ei] at h; cases h
    | some is =>
      rw [ei] at h
      cases h
      obtain ⟨a1, a2, a3, a4⟩ := pgs_names hN h1 h2 ei
      refine ⟨fun pins s σ H v u Q I r hw => ?_⟩
      rcases hw with hw | hw
      · exact (pg_tup hc a1 (a4.trans a2) a3).run pins s σ H v u Q I r hw
      · exact (pg_unl hc a1 (a4.trans a2) a3).run pins s σ H v u Q I r hw
  · cases h
end
end Dp
set_option Elab.async false
set_option linter.all false
set_option maxRecDepth 100000
set_option maxHeartbeats 4000000
/-! Dp8: comprehensions. -/
namespace Dp
open PySem PySem.Spec PyProof.Rows L2

def wipeD (env : Slt) : List Nat → Slt
  | [] => env
  | v :: vs => (wipeD env vs).set v none
theorem RelE.wipeD {W : Wd} {ρ : List Addr} {H : Hp} {env : Slt} {σ : L2.St} (h : RelE W ρ H env σ) : ∀ vs : List Nat, RelE W ρ H (Dp.wipeD env vs) (wipe σ vs)
  | [] => h
  | v :: vs => by
    have ih := RelE.wipeD h vs
    show RelE W ρ H ((Dp.wipeD env vs).set v none) ((wipe σ vs).set v none)
    refine ⟨by rw [List.length_set, List.length_set]; exact ih.1, fun i d e => ?_⟩
    by_cases hi : v = i
    · subst hi
      by_cases hl : v < (Dp.wipeD env vs).length
      · rw [List.getElem?_set_self hl] at e; cases e
      · rw [List.getElem?_eq_none (by simpa using hl)] at e; cases e
    · rw [List.getElem?_set_ne hi] at e
      obtain ⟨w, h1, h2⟩ := ih.2 i d e
      exact ⟨w, by rw [List.getElem?_set_ne hi]; exact h1, h2⟩
def noX {α : Type} : Out α → Out α
  | .ok a st => .ok a st
  | _ => .bad
theorem bindNX {α β γ δ : Type} {W : Wd} {E E' : XK} {Ra : List Addr → Hp → α → β → Prop} {Rb : List Addr → Hp → γ → δ → Prop} {ρ : List Addr} {H : Hp} {o : Out α} {k : α → Store → Out γ} {Q : δ → Hp → Prop} {Q' : β → Hp → Prop}
    (h : Post W Rb E ρ H ((noX o).bind k) Q) (hq : ∀ ρ1 H1 d v st1, Ext W ρ H ρ1 H1 → Rel W ρ1 st1 H1 → Ra ρ1 H1 d v → Post W Rb E ρ1 H1 (k d st1) Q → Q' v H1) : Post W Ra E' ρ H o Q' := by
  cases o with
  | bad => exact h
  | ok d st1 => exact fun ρ1 H1 v e r p => hq ρ1 H1 d v st1 e r p (Post.ext h e)
  | exn c fs st1 => exact False.elim h
def turns : Nat := 2000
/-- the loop of a list's comprehension, the new list at n -/
def lcLoop (n : Nat) (src : Src) (bt : D → Store → Option Slt) (tst : BM) (elt : EM) : Nat → Nat → Store → Out D
  | 0, _, _ => .bad
  | k + 1, i, st => match src.good st i with
    | false => .bad
    | true => match src.at st i with
      | none => .ok (.ref n) st
      | some d => match bt d st with
        | none => .bad
        | some env2 => (noX (tst env2 st)).bind fun b st2 => match b with
          | false => lcLoop n src bt tst elt k (i + 1) st2
          | true => (noX (elt env2 st2)).bind fun y st3 => match st3[n]? with
            | some (.lst acc) => if acc.length < big then lcLoop n src bt tst elt k (i + 1) (st3.set n (.lst (acc ++ [y]))) else .bad
            | _ => .bad
def mLc (src : SM) (vs : List Nat) (t : Tg) (tst : BM) (elt : EM) : EM := fun env st => (src env st).bind fun s st1 =>
  lcLoop st1.length s (fun d st => bindTg t d (wipeD env vs) st) tst elt turns 0 (st1.push (.lst []))
def dcLoop (n : Nat) (src : Src) (bt : D → Store → Option Slt) (tst : BM) (key elt : EM) : Nat → Nat → Store → Out D
  | 0, _, _ => .bad
  | k + 1, i, st => match src.good st i with
    | false => .bad
    | true => match src.at st i with
      | none => .ok (.ref n) st
      | some d => match bt d st with
        | none => .bad
        | some env2 => (noX (tst env2 st)).bind fun b st2 => match b with
          | false => dcLoop n src bt tst key elt k (i + 1) st2
          | true => (noX (key env2 st2)).bind fun x st3 => (noX (elt env2 st3)).bind fun y st4 => match st4[n]?, keyOf x with
            | some (.dct acc), some kk => if acc.length < big then dcLoop n src bt tst key elt k (i + 1) (st4.set n (.dct (putD acc kk y))) else .bad
            | _, _ => .bad
def mDc (src : SM) (vs : List Nat) (t : Tg) (tst : BM) (key elt : EM) : EM := fun env st => (src env st).bind fun s st1 =>
  dcLoop st1.length s (fun d st => bindTg t d (wipeD env vs) st) tst key elt turns 0 (st1.push (.dct []))

section
variable {X : Cx} {E : XK} {elt key tg iter : Expr} {ifs : List Expr} {scope : Scope} {own : List (Str × Nat)} {pos : Pos} {src : SM} {t : Tg} {tst : BM} {me mk : EM}
theorem tup_snoc_at {W : Wd} {ρ ρ' : List Addr} {H H0 H' : Hp} {st : Store} {Dl : Addr} (r : Rel W ρ st H) (e : Ext W (ρ ++ [Dl]) H0 ρ' H') : ρ'[st.length]? = some Dl := by
  refine e.pre st.length Dl ?_
  rw [← r.len, List.getElem?_append_right (Nat.le_refl _)]
  simp
theorem lc_rd (hsl : ∀ i ∈ t.slots, i ∈ own.map (·.2)) {σ : L2.St} {H : Hp} {Q : VK} (h : T (Wof X) E (mLc src (own.map (·.2)) t tst me) σ H Q) :
    tLc (TIt (Wof X) E src) (gTg X.K t) (TB (Wof X) E0 tst) (T (Wof X) E0 me) (own.map (·.2)) σ H Q := by
  obtain ⟨ρ, env, st, hE, hR, hP⟩ := h
  refine ⟨ρ, env, st, hE, hR, bindT hP fun ρ1 H1 s J st1 e1 r1 p1 hP1 => fun Dl hD => ?_⟩
  have ex1 : Ext (Wof X) ρ1 H1 (ρ1 ++ [Dl]) (upd H1 Dl (.lst [])) := Ext.snoc hD
  have hE1 := (hE.mono e1).wipeD (own.map (·.2))
  generalize hvs : own.map (·.2) = vs at *
  refine ⟨fun i m H' => ∃ ρ' st', Ext (Wof X) (ρ1 ++ [Dl]) (upd H1 Dl (.lst [])) ρ' H' ∧ Rel (Wof X) ρ' st' H' ∧ PostD (Wof X) E ρ' H' (lcLoop st1.length s (fun d st => bindTg t d (wipeD env vs) st) tst me m i st') Q,
    ⟨turns, ρ1 ++ [Dl], st1.push (.lst []), Ext.refl, r1.snoc (c := .lst []) hD ⟨[], upd_same, Reps.nil⟩, Post.ext hP1 ex1⟩, fun i m H' hW => ?_⟩
  obtain ⟨ρ', st', ex2, r2, hP2⟩ := hW
  cases m with
  | zero => exact hP2.elim
  | succ k =>
    unfold lcLoop at hP2
    split at hP2
    · exact hP2.elim
    · rename_i hg
      have hdr := p1 ρ' H' st' i (ex1.trans ex2) r2 hg
      split at hP2
      · rename_i hat
        rw [hat] at hdr
        exact .inl ⟨hdr, hP2 ρ' H' _ Ext.refl r2 (rep_ref.mpr ⟨Dl, rfl, tup_snoc_at r1 ex2⟩)⟩
      · rename_i d hat
        rw [hat] at hdr
        refine .inr ⟨hdr.1, fun H'' => ∃ ρ'' st'', Ext (Wof X) (ρ1 ++ [Dl]) (upd H1 Dl (.lst [])) ρ'' H'' ∧ Rel (Wof X) ρ'' st'' H'' ∧ PostD (Wof X) E ρ'' H'' (lcLoop st1.length s (fun d st => bindTg t d (wipeD env vs) st) tst me k (i + 1) st'') Q,
          fun H'' h'' => ⟨k, Nat.lt_succ_self k, h''⟩, fun x H3 y => ?_⟩
        obtain ⟨ex3, r3, p3⟩ := hdr.2 x H3 y
        split at hP2
        · exact hP2.elim
        · rename_i env2 hb
          refine bind_ok hb r3 (hE1.mono ((ex1.trans ex2).trans ex3)) p3 fun σ2 hE2 hw => ⟨?_, ?_⟩
          · rw [hw vs hsl, wipe_wipe fun _ h => h]
          · refine ⟨ρ', env2, st', hE2, r3, bindNX (Post.ext hP2 ex3) fun ρ4 H4 b c st4 e4 r4 p4 hP4 => ?_⟩
            have eb : c = b := p4
            subst eb
            cases c with
            | false =>
              rw [if_neg Bool.false_ne_true]
              exact ⟨ρ4, st4, (ex2.trans ex3).trans e4, r4, hP4⟩
            | true =>
              rw [if_pos rfl]
              refine ⟨ρ4, env2, st4, hE2.mono e4, r4, bindNX hP4 fun ρ5 H5 yd yv st5 e5 r5 p5 hP5 => ?_⟩
              have exA := ((ex2.trans ex3).trans e4).trans e5
              have hn := tup_snoc_at r1 exA
              split at hP5
              · rename_i acc hacc
                split at hP5
                · rename_i hz
                  obtain ⟨ws, h1, h2⟩ := r5.cell _ _ _ hn hacc
                  have exw : Ext (Wof X) ρ5 H5 ρ5 (upd H5 Dl (.lst (ws ++ [yv]))) := Ext.write r5 hn hacc trivial
                  exact ⟨ws, h1, by rw [h2.length]; exact sz_bigL hz, ρ5, _, exA.trans exw, r5.write (c' := .lst (acc ++ [yd])) hn hacc trivial ⟨ws ++ [yv], upd_same, Reps.mono exw _ _ (h2.append (Reps.cons p5 Reps.nil))⟩, Post.ext hP5 exw⟩
                · exact hP5.elim
              · exact hP5.elim
theorem pe_lcD (hc : X.calm = true) (hN : X.N.Nodup) (hi : PI X tg iter (TIt (Wof X) E src)) (ok : BlkOk X.N X.env.scope scope own)
    (hg : ∀ (s : Shared) (H : Hp) (C : Addr) (cl : List (Str × Addr)) (fp : List Addr), PG (X.blk s H scope (compEnvC scope cl C X.env) fp) tg (gTg X.K t)) (ht : ∀ (s : Shared) (H : Hp) (C : Addr) (cl : List (Str × Addr)) (fp : List Addr), PTs (X.blk s H scope (compEnvC scope cl C X.env) fp) ifs (TB (Wof X) E0 tst))
    (he : ∀ (s : Shared) (H : Hp) (C : Addr) (cl : List (Str × Addr)) (fp : List Addr), PE (X.blk s H scope (compEnvC scope cl C X.env) fp) elt (T (Wof X) E0 me)) (hsl : ∀ i ∈ t.slots, i ∈ own.map (·.2)) (hs : ∀ x, foldedSetIterable iter X.env x = pure x) :
    PE X (.ListComp elt [⟨tg, iter, ifs, 0⟩] scope pos) (T (Wof X) E (mLc src (own.map (·.2)) t tst me)) :=
  peT (fun σ H Q h => lc_rd hsl h) (pe_lc hc hN hi ok hg ht he hs)
theorem dc_rd (hsl : ∀ i ∈ t.slots, i ∈ own.map (·.2)) {σ : L2.St} {H : Hp} {Q : VK} (h : T (Wof X) E (mDc src (own.map (·.2)) t tst mk me) σ H Q) :
    tDc (TIt (Wof X) E src) (gTg X.K t) (TB (Wof X) E0 tst) (T (Wof X) E0 mk) (T (Wof X) E0 me) (own.map (·.2)) σ H Q := by
  obtain ⟨ρ, env, st, hE, hR, hP⟩ := h
  refine ⟨ρ, env, st, hE, hR, bindT hP fun ρ1 H1 s J st1 e1 r1 p1 hP1 => fun Dl hD => ?_⟩
  have ex1 : Ext (Wof X) ρ1 H1 (ρ1 ++ [Dl]) (upd H1 Dl (.dK [])) := Ext.snoc hD
  have hE1 := (hE.mono e1).wipeD (own.map (·.2))
  generalize hvs : own.map (·.2) = vs at *
  refine ⟨fun i m H' => ∃ ρ' st', Ext (Wof X) (ρ1 ++ [Dl]) (upd H1 Dl (.dK [])) ρ' H' ∧ Rel (Wof X) ρ' st' H' ∧ PostD (Wof X) E ρ' H' (dcLoop st1.length s (fun d st => bindTg t d (wipeD env vs) st) tst mk me m i st') Q,
    ⟨turns, ρ1 ++ [Dl], st1.push (.dct []), Ext.refl, r1.snoc (c := .dct []) hD ⟨[], upd_same, by simp only [KReps]⟩, Post.ext hP1 ex1⟩, fun i m H' hW => ?_⟩
  obtain ⟨ρ', st', ex2, r2, hP2⟩ := hW
  cases m with
  | zero => exact hP2.elim
  | succ k =>
    unfold dcLoop at hP2
    split at hP2
    · exact hP2.elim
    · rename_i hg
      have hdr := p1 ρ' H' st' i (ex1.trans ex2) r2 hg
      split at hP2
      · rename_i hat
        rw [hat] at hdr
        exact .inl ⟨hdr, hP2 ρ' H' _ Ext.refl r2 (rep_ref.mpr ⟨Dl, rfl, tup_snoc_at r1 ex2⟩)⟩
      · rename_i d hat
        rw [hat] at hdr
        refine .inr ⟨hdr.1, fun H'' => ∃ ρ'' st'', Ext (Wof X) (ρ1 ++ [Dl]) (upd H1 Dl (.dK [])) ρ'' H'' ∧ Rel (Wof X) ρ'' st'' H'' ∧ PostD (Wof X) E ρ'' H'' (dcLoop st1.length s (fun d st => bindTg t d (wipeD env vs) st) tst mk me k (i + 1) st'') Q,
          fun H'' h'' => ⟨k, Nat.lt_succ_self k, h''⟩, fun x H3 y => ?_⟩
        obtain ⟨ex3, r3, p3⟩ := hdr.2 x H3 y
        split at hP2
        · exact hP2.elim
        · rename_i env2 hb
          refine bind_ok hb r3 (hE1.mono ((ex1.trans ex2).trans ex3)) p3 fun σ2 hE2 hw => ⟨?_, ?_⟩
          · rw [hw vs hsl, wipe_wipe fun _ h => h]
          · refine ⟨ρ', env2, st', hE2, r3, bindNX (Post.ext hP2 ex3) fun ρ4 H4 b c st4 e4 r4 p4 hP4 => ?_⟩
            have eb : c = b := p4
            subst eb
            cases c with
            | false =>
              rw [if_neg Bool.false_ne_true]
              exact ⟨ρ4, st4, (ex2.trans ex3).trans e4, r4, hP4⟩
            | true =>
              rw [if_pos rfl]
              refine ⟨ρ4, env2, st4, hE2.mono e4, r4, bindNX hP4 fun ρ5 H5 xd xv st5 e5 r5 p5 hP5 => ?_⟩
              refine ⟨ρ5, env2, st5, (hE2.mono e4).mono e5, r5, bindNX hP5 fun ρ6 H6 yd yv st6 e6 r6 p6 hP6 => ?_⟩
              have exA := (((ex2.trans ex3).trans e4).trans e5).trans e6
              have hn := tup_snoc_at r1 exA
              split at hP6
              · rename_i acc kk hacc hkk
                split at hP6
                · rename_i hz
                  obtain ⟨ws, h1, h2⟩ := r6.cell _ _ _ hn hacc
                  have exw : Ext (Wof X) ρ6 H6 ρ6 (upd H6 Dl (.dK (putK ws kk yv))) := Ext.write r6 hn hacc trivial
                  exact ⟨ws, kk, key_ok hkk p5, h1, by rw [h2.len]; exact sz_bigL hz, ρ6, _, exA.trans exw, r6.write (c' := .dct (putD acc kk yd)) hn hacc trivial ⟨_, upd_same, KReps.mono exw (put_ok p6 h2)⟩, Post.ext hP6 exw⟩
                · exact hP6.elim
              · exact hP6.elim
theorem pe_dcD (hc : X.calm = true) (hN : X.N.Nodup) (hi : PI X tg iter (TIt (Wof X) E src)) (ok : BlkOk X.N X.env.scope scope own)
    (hg : ∀ (s : Shared) (H : Hp) (C : Addr) (cl : List (Str × Addr)) (fp : List Addr), PG (X.blk s H scope (compEnvC scope cl C X.env) fp) tg (gTg X.K t)) (ht : ∀ (s : Shared) (H : Hp) (C : Addr) (cl : List (Str × Addr)) (fp : List Addr), PTs (X.blk s H scope (compEnvC scope cl C X.env) fp) ifs (TB (Wof X) E0 tst))
    (hk : ∀ (s : Shared) (H : Hp) (C : Addr) (cl : List (Str × Addr)) (fp : List Addr), PE (X.blk s H scope (compEnvC scope cl C X.env) fp) key (T (Wof X) E0 mk))
    (he : ∀ (s : Shared) (H : Hp) (C : Addr) (cl : List (Str × Addr)) (fp : List Addr), PE (X.blk s H scope (compEnvC scope cl C X.env) fp) elt (T (Wof X) E0 me)) (hsl : ∀ i ∈ t.slots, i ∈ own.map (·.2)) (hs : ∀ x, foldedSetIterable iter X.env x = pure x) :
    PE X (.DictComp key elt [⟨tg, iter, ifs, 0⟩] scope pos) (T (Wof X) E (mDc src (own.map (·.2)) t tst mk me)) :=
  peT (fun σ H Q h => dc_rd hsl h) (pe_dc hc hN hi ok hg ht hk he hs)
theorem pts_nilD : PTs X [] (TB (Wof X) E (fun _ st => .ok true st)) := ⟨fun pins s σ H Q I ⟨ρ, env, st, hE, hR, hP⟩ => pts_nil.run pins s σ H Q I (hP ρ H true Ext.refl hR rfl)⟩
end
end Dp
set_option Elab.async false
set_option linter.all false
set_option maxRecDepth 100000
set_option maxHeartbeats 4000000
/-! Dp9: calls, statements. -/
namespace Dp
open PySem PySem.Spec PyProof.Rows L2

/-! ### calls -/
def spOf (W : Wd) (n : Nat) (cl : List D → Store → Out D) : Sp := fun vs H Q E => vs.length = n ∧ ∃ ρ st ds, Reps W ρ H ds vs ∧ Rel W ρ st H ∧ PostD W E ρ H (cl ds st) Q
def mCall (n : Nat) (cl : List D → Store → Out D) (a : AM) : EM := fun env st => (a env st).bind fun ds s1 => if ds.length = n then cl ds s1 else .bad
/-- a function that an expression gives -/
def mCallF (cl : Str → Option (Nat × (List D → Store → Out D))) (o : EM) (a : AM) : EM := fun env st => (o env st).bind fun v s1 => match v with
  | .fn x => (match cl x with
    | some (n, f) => (a env s1).bind fun ds s2 => if ds.length = n then f ds s2 else .bad
    | none => .bad)
  | _ => .bad
/-- keywords alone: the values in their order, then by the parameters -/
def permD {α : Type} (xs : List α) : List Nat → Option (List α)
  | [] => some []
  | i :: is => match xs[i]?, permD xs is with
    | some x, some r => some (x :: r)
    | _, _ => none
def mCallK (cl : List D → Store → Out D) (pm : List Nat) (a : AM) : EM := fun env st => (a env st).bind fun ds s1 => match permD ds pm with
  | some es => cl es s1
  | none => .bad
def plainArgs : List Expr → Bool
  | [] => true
  | .Starred _ _ :: _ => false
  | _ :: es => plainArgs es
theorem plain_cons {e : Expr} {es : List Expr} (h : plainArgs (e :: es) = true) : plainArgs es = true ∧ ∀ env, starEach (e :: es) env = (false, eval e env) :: starEach es env := by
  cases e <;> first | exact ⟨h, fun _ => rfl⟩ | cases h
theorem plain_any {pos : Pos} {env : PySem.Env} : ∀ {es : List Expr}, plainArgs es = true → (backTo pos (starEach es env)).any (·.1) = false
  | [], _ => rfl
  | e :: es, h => by
    obtain ⟨h1, h2⟩ := plain_cons h
    rw [h2]
    show (false || (backTo pos (starEach es env)).any (·.1)) = false
    rw [plain_any h1]
    rfl
section
variable {X : Cx} {E : XK} {e o : Expr} {es : List Expr} {ma mb : EM} {la : AM} {pos p apos : Pos} {x : Str}
theorem tA_nil {σ : L2.St} {H : Hp} {Q : List V → Hp → Prop} (h : TAr (Wof X) E mNil σ H Q) : Q [] H := by
  obtain ⟨ρ, env, st, hE, hR, hP⟩ := h
  exact hP ρ H [] Ext.refl hR Reps.nil
theorem call_rd {n : Nat} {cl : List D → Store → Out D} {σ : L2.St} {H : Hp} {Q : VK} (h : T (Wof X) E (mCall n cl la) σ H Q) : tCall (spOf (Wof X) n cl) [] E (TAr (Wof X) E la) σ H Q := by
  obtain ⟨ρ, env, st, hE, hR, hP⟩ := h
  refine ⟨ρ, env, st, hE, hR, bindT hP fun ρ1 H1 d1 v1 st1 e1 r1 p1 hP1 => ?_⟩
  rw [List.append_nil]
  split at hP1
  · rename_i hn
    exact ⟨p1.length.trans hn, ρ1, st1, d1, p1, r1, hP1⟩
  · exact hP1.elim
theorem pe_callD {k : Nat} {f : Addr} {fd : FuncData} {ps : List Str} {n : Nat} {cl : List D → Store → Out D} (F : FnOk X.prog X.w X.K X.mg X.base (L2.CX X.prog X.w) k f fd ps (spOf (Wof X) n cl)) (hr : Room k X.A) (hg : Gl X x) (hm : X.mg x = some (.ref f)) (hk : PySem.W.keepIn X.K (.ref f) = true)
    (hb : Binds X.K fd ps []) (hx : Passes (L2.CX X.prog X.w) X E) (ha : PA X es (TAr (Wof X) E la)) (hpl : plainArgs es = true) (hla : es = [] → la = mNil) (hd : (x == ("__debug__" : Str)) = false) : PE X (.Call (.Name x p) es [] pos) (T (Wof X) E (mCall n cl la)) := by
  cases es with
  | nil =>
    have e := hla rfl
    subst e
    exact peT (fun σ H Q h => tA_nil (call_rd h)) (pe_call0 F hr hg hm hk hb .nil hx hd)
  | cons a as =>
    obtain ⟨h1, h2⟩ := plain_cons hpl
    exact peT (fun σ H Q h => call_rd h) (pe_call F hr hg hm hk hb .nil hx ha hd (h2 _) (plain_any h1))
theorem pk_consD {kws : List Keyword} {nm : Option Str} {kp : Pos} {lb : AM} (h1 : PE X e (T (Wof X) E ma)) (h2 : PK X kws (TAr (Wof X) E lb)) : PK X (⟨nm, e, kp⟩ :: kws) (TAr (Wof X) E (mCons ma lb)) := by
  have h := pk_cons (nm := nm) (kpos := kp) h1 h2
  refine ⟨fun pos pins s σ H Q I hq => h.run pos pins s σ H Q I ?_⟩
  obtain ⟨ρ, env, st, hE, hR, hP⟩ := hq
  exact ⟨ρ, env, st, hE, hR, bindT hP fun ρ1 H1 d1 v1 st1 e1 r1 p1 hP1 => ⟨ρ1, env, st1, hE.mono e1, r1, bindT hP1 fun ρ2 H2 d2 v2 st2 e2 r2 p2 hP2 => hP2 ρ2 H2 (v1 :: v2) Ext.refl r2 (Reps.cons (Rep.mono e2 _ _ p1) p2)⟩⟩
theorem pk_nilD : PK X [] (TAr (Wof X) E mNil) := ⟨fun pos pins s σ H Q I hq => pk_nil.run pos pins s σ H Q I (tA_nil hq)⟩
def permV {α : Type} [Inhabited α] (pm : List Nat) (xs : List α) : List α := pm.map fun i => xs.getD i default
theorem perm_ok {W : Wd} {ρ : List Addr} {H : Hp} {ds : List D} {vs : List V} (r : Reps W ρ H ds vs) : ∀ {pm : List Nat} {es : List D}, permD ds pm = some es → ∃ ws, permD vs pm = some ws ∧ Reps W ρ H es ws
  | [], es, h => by
    cases h
    exact ⟨[], rfl, Reps.nil⟩
  | i :: is, es, h => by
    unfold permD at h
    split at h
    · rename_i x q e1 e2
      cases h
      obtain ⟨v, h1, h2⟩ := r.get e1
      obtain ⟨ws, h3, h4⟩ := perm_ok r e2
      exact ⟨v :: ws, by unfold permD; rw [h1, h3], Reps.cons h2 h4⟩
    · cases h
/-- keywords alone, put in the parameters' order -/
def KwOk (X : Cx) (fd : FuncData) (ps ks : List Str) (pm : List Nat) : Prop :=
  ∀ (s : Shared) (ws us : List Value), X.K.In s.heap → ws.length = ks.length → permD ws pm = some us → us.length = ps.length ∧ BindsTo s fd ⟨[], ks.zip ws⟩ (ps.zip us)
theorem vals_perm {vs : List V} {ws : List Value} (r : Vals vs ws) : ∀ {pm : List Nat} {us : List V}, permD vs pm = some us → ∃ zs, permD ws pm = some zs ∧ Vals us zs
  | [], us, h => by
    cases h
    exact ⟨[], rfl, .nil⟩
  | i :: is, us, h => by
    unfold permD at h
    split at h
    · rename_i x q e1 e2
      cases h
      obtain ⟨v, h1, h2⟩ := r.get e1
      obtain ⟨zs, h3, h4⟩ := vals_perm r e2
      exact ⟨v :: zs, by unfold permD; rw [h1, h3], .cons h2 h4⟩
    · cases h
theorem pe_callKD {k : Nat} {f : Addr} {fd : FuncData} {ps ks : List Str} {pm : List Nat} {n : Nat} {cl : List D → Store → Out D} {kws : List Keyword} (F : FnOk X.prog X.w X.K X.mg X.base (L2.CX X.prog X.w) k f fd ps (spOf (Wof X) n cl)) (hr : Room k X.A) (hg : Gl X x) (hm : X.mg x = some (.ref f))
    (hk : PySem.W.keepIn X.K (.ref f) = true) (hb : KwOk X fd ps ks pm) (hx : Passes (L2.CX X.prog X.w) X E) (hn : n = ps.length) (hkw : PK X kws (TAr (Wof X) E la)) (hall : (backToKw pos (keywordEach kws X.env)).all (·.1.isSome) = true) (hks : (backToKw pos (keywordEach kws X.env)).filterMap (·.1) = ks)
    (hany : (backToKw pos (keywordEach kws X.env)).any (·.1.isNone) = false) (hlen : ∀ env st ds s1, la env st = .ok ds s1 → ds.length = ks.length) (hd : (x == ("__debug__" : Str)) = false) :
    PE X (.Call (.Name x p) [] kws pos) (T (Wof X) E (mCallK cl pm la)) := by
  refine ⟨fun pins s σ H Q I h => ?_⟩
  obtain ⟨ρ, env, st, hE, hR, hP⟩ := h
  refine wpAny_Call_Name_kw (ld_glob I hg hm ?_ hd)
  refine PySem.W.callWith_KW0 (h₀ := X.base) I.ok.mod.kin hk hall (thn (hkw.run pos pins s σ H (fun vs H1 => vs.length = ks.length ∧ ∃ us, permD vs pm = some us ∧ spOf (Wof X) n cl us H1 Q E) I ⟨ρ, env, st, hE, hR, ?_⟩) fun ws s2 ⟨zs, H2, I2, rz, hl, us, hpm, q2⟩ => ⟨I2.kIn, ?_⟩) (by
      show (false || (backToKw pos (keywordEach kws X.env)).any (·.1.isNone)) = false
      rw [hany]
      rfl)
  · cases ho : la env st with
    | bad => unfold mCallK at hP; rw [ho] at hP; exact hP.elim
    | exn c fs s1 => unfold mCallK at hP; rw [ho] at hP; exact hP
    | ok ds s1 =>
      unfold mCallK at hP
      rw [ho] at hP
      dsimp only [Out.bind] at hP
      intro ρ1 H1 vs e1 r1 p1
      split at hP
      · rename_i es' epm
        obtain ⟨us, h1, h2⟩ := perm_ok p1 epm
        have hlv : vs.length = ks.length := p1.length.trans (hlen env st ds s1 ho)
        refine ⟨hlv, us, h1, ?_, ρ1, s1, es', h2, r1, Post.ext hP e1⟩
        obtain ⟨vals, hv⟩ : ∃ vals : List Value, Vals vs vals := by
          have key : ∀ vs : List V, ∃ vals : List Value, Vals vs vals := fun vs => by
            induction vs with
            | nil => exact ⟨[], .nil⟩
            | cons v vs ih =>
              obtain ⟨r, hr⟩ := ih
              cases v with
              | non => exact ⟨.none :: r, .cons rfl hr⟩
              | bl b => exact ⟨.bool b :: r, .cons rfl hr⟩
              | int i => exact ⟨.int i 0 :: r, .cons ⟨0, rfl⟩ hr⟩
              | str i => exact ⟨.str i 0 :: r, .cons ⟨0, rfl⟩ hr⟩
              | byt i => exact ⟨.bytes i 0 :: r, .cons ⟨0, rfl⟩ hr⟩
              | flt i => exact ⟨.float i 0 :: r, .cons ⟨0, rfl⟩ hr⟩
              | ref i => exact ⟨.ref i :: r, .cons rfl hr⟩
              | ty i => exact ⟨.type i :: r, .cons rfl hr⟩
          exact key vs
        obtain ⟨zs, h3, h4⟩ := vals_perm hv h1
        rw [hn, h4.length]
        exact (hb s vals zs I.kIn (hv.length.symm.trans hlv) h3).1
      · exact hP.elim
  · rw [hks]
    obtain ⟨zs', h3, h4⟩ := vals_perm rz hpm
    obtain ⟨hl2, hbt⟩ := hb s2 ws zs' I2.kIn (rz.length.symm.trans hl) h3
    show wpAny _ _ (call (.ref f) [] (ks.zip ws)) _ _ _
    refine wpAny_call (codeAny_mono (F.run X.A X.stack s2 H2 ⟨[], ks.zip ws⟩ zs' us Q E hr I2.env0 hbt h4 q2) fun r s' hq => ?_)
    cases r with
    | error e => exact hx pins σ H2 s2 e s' I2 hq
    | ok fl =>
      cases fl with
      | ret u => exact I2.after hq
      | next => exact False.elim hq
      | brk => exact False.elim hq
      | cont => exact False.elim hq
theorem pe_callBD {f : Bi} (hc : X.calm = true) (hu : X.A.units + 200 < cLine) (hg : Gl X x) (hm : X.mg x = none) (hv : bootBuiltins x = some f.val) (ha : PA X (e :: es) (TAr (Wof X) E la)) (hpl : plainArgs (e :: es) = true) (hn : x ≠ "__name__") (hd : (x == ("__debug__" : Str)) = false) :
    PE X (.Call (.Name x p) (e :: es) [] pos) (T (Wof X) E (mCallB f la)) := by
  obtain ⟨h1, h2⟩ := plain_cons hpl
  have rd : ∀ σ H Q, T (Wof X) E (mCallB f la) σ H Q → tCB (CallV X f.val) (TAr (Wof X) E la) σ H Q := fun σ H Q ⟨ρ, env, st, hE, hR, hP⟩ =>
    ⟨ρ, env, st, hE, hR, bindT hP fun ρ1 H1 d1 v1 st1 e1 r1 p1 hP1 => call_ok hc hu r1 p1 hP1⟩
  cases f <;> first
    | exact peT rd (pe_callB callv hg hm hv ha hn hd (h2 _) (plain_any h1))
    | exact peT rd (pe_callTy callv hg hm hv ha hn hd (h2 _) (plain_any h1))
def plainBase : Expr → Bool
  | .Call _ _ _ _ => false
  | _ => true
theorem few_ok {env : PySem.Env} {cpos : Pos} (hpl : plainArgs (e :: es) = true) (hl : (e :: es).length < 20) : ((backTo cpos (starEach (e :: es) env)).all (fun x => !x.1) && (backToKw cpos (keywordEach [] env)).all (fun x => x.1.isSome)
      && decide ((e :: es).length + ([] : List Keyword).length + (if ([] : List Keyword).isEmpty then 0 else 1) < 30)) = true := by
  have h := plain_any (pos := cpos) (env := env) hpl
  have h1 : (backTo cpos (starEach (e :: es) env)).all (fun x => !x.1) = true := by
    rw [List.all_eq_true]
    intro y hy
    have := List.any_eq_false.mp h y hy
    simpa using this
  rw [h1]
  simp only [List.length_nil, Nat.add_zero, List.isEmpty_nil, if_true, Bool.true_and]
  show decide ((e :: es).length < 30) = true
  exact decide_eq_true (by omega)
theorem pe_meD {f : Me} {cpos : Pos} (ho : PE X o (T (Wof X) E ma)) (ha : PA X (e :: es) (TAr (Wof X) E la)) (hpl : plainArgs (e :: es) = true) (hl : (e :: es).length < 20) (hb : plainBase o = true) (hline : (apos.endLine == cpos.line) = true) :
    PE X (.Call (.Attribute o f.name apos) (e :: es) [] cpos) (T (Wof X) E (mMeth f ma la)) := by
  obtain ⟨h1, h2⟩ := plain_cons hpl
  have hbase : attributeBase o f.name X.env (eval o X.env) = eval o X.env := by cases o <;> first | rfl | cases hb
  have rd : ∀ σ H Q, T (Wof X) E (mMeth f ma la) σ H Q → tBM X.K f.ty (MtV X f.id) (T (Wof X) E ma) (TAr (Wof X) E la) σ H Q := fun σ H Q ⟨ρ, env, st, hE, hR, hP⟩ =>
    ⟨ρ, env, st, hE, hR, bindT hP fun ρ1 H1 d1 v1 st1 e1 r1 p1 hP1 => by
      split at hP1
      · rename_i ht
        exact ⟨meTy_ok r1 p1 ht, ρ1, env, st1, hE.mono e1, r1, bindT hP1 fun ρ2 H2 d2 v2 st2 e2 r2 p2 hP2 => me_ok r2 (Rep.mono e2 _ _ p1) p2 hP2⟩
      · exact hP1.elim⟩
  cases f with
  | append => exact peT rd (pe_bm PySem.F.plainAttrs_list PySem.F.slot_list_append PySem.F.type_list_append mtv ho ha hbase (few_ok hpl hl) hline (h2 _) (plain_any h1))
  | pop => exact peT rd (pe_bm PySem.F.plainAttrs_list PySem.F.slot_list_pop PySem.F.type_list_pop mtv ho ha hbase (few_ok hpl hl) hline (h2 _) (plain_any h1))
  | split => exact peT rd (pe_bm PySem.F.plainAttrs_str PySem.F.slot_str_split PySem.F.type_str_split mtv ho ha hbase (few_ok hpl hl) hline (h2 _) (plain_any h1))
end
end Dp
set_option Elab.async false
set_option linter.all false
set_option maxRecDepth 100000
set_option maxHeartbeats 4000000
/-! Dp10: statements. -/
namespace Dp
open PySem PySem.Spec PyProof.Rows L2

inductive Fl where
  | nx (env : Slt) | rt (d : D) | bk (env : Slt) | ct (env : Slt)
abbrev StM := Slt → Store → Out Fl
def PostS (W : Wd) (E : XK) (ρ : List Addr) (H : Hp) (o : Out Fl) (D : Ends) : Prop :=
  match o with
  | .bad => False
  | .exn c fs st' => ∀ ρ' H' cls dd, Ext W ρ H ρ' H' → Rel W ρ' st' H' → XRep W ρ' H' c fs cls dd → E cls dd H'
  | .ok (.nx env') st' => ∀ ρ' σ' H', Ext W ρ H ρ' H' → RelE W ρ' H' env' σ' → Rel W ρ' st' H' → D.nx σ' H'
  | .ok (.bk env') st' => ∀ ρ' σ' H', Ext W ρ H ρ' H' → RelE W ρ' H' env' σ' → Rel W ρ' st' H' → D.bk σ' H'
  | .ok (.ct env') st' => ∀ ρ' σ' H', Ext W ρ H ρ' H' → RelE W ρ' H' env' σ' → Rel W ρ' st' H' → D.ct σ' H'
  | .ok (.rt d) st' => ∀ ρ' H' v, Ext W ρ H ρ' H' → Rel W ρ' st' H' → Rep W ρ' H' d v → D.rt v H'
theorem PostS.ext {W : Wd} {E : XK} {ρ ρ1 : List Addr} {H H1 : Hp} {o : Out Fl} {D : Ends} (h : PostS W E ρ H o D) (e : Ext W ρ H ρ1 H1) : PostS W E ρ1 H1 o D := by
  cases o with
  | bad => exact h
  | exn c fs st => exact fun ρ' H' cls dd e' => h ρ' H' cls dd (e.trans e')
  | ok f st => cases f with
    | nx env => exact fun ρ' σ' H' e' => h ρ' σ' H' (e.trans e')
    | bk env => exact fun ρ' σ' H' e' => h ρ' σ' H' (e.trans e')
    | ct env => exact fun ρ' σ' H' e' => h ρ' σ' H' (e.trans e')
    | rt d => exact fun ρ' H' v e' => h ρ' H' v (e.trans e')
def TSt (W : Wd) (E : XK) (m : StM) : TS := fun D σ H => ∃ ρ env st, RelE W ρ H env σ ∧ Rel W ρ st H ∧ PostS W E ρ H (m env st) D
/-- evaluate, then go on as a statement -/
theorem bindS {α β : Type} {W : Wd} {E : XK} {Ra : List Addr → Hp → α → β → Prop} {ρ : List Addr} {H : Hp} {o : Out α} {k : α → Store → Out Fl} {D : Ends} {Q' : β → Hp → Prop}
    (h : PostS W E ρ H (o.bind k) D) (hq : ∀ ρ1 H1 d v st1, Ext W ρ H ρ1 H1 → Rel W ρ1 st1 H1 → Ra ρ1 H1 d v → PostS W E ρ1 H1 (k d st1) D → Q' v H1) : Post W Ra E ρ H o Q' := by
  cases o with
  | bad => exact h
  | ok d st1 => exact fun ρ1 H1 v e r p => hq ρ1 H1 d v st1 e r p (PostS.ext h e)
  | exn c fs st1 => exact h
theorem psT {X : Cx} {st : Stmt} {t t' : TS} (w : ∀ D σ H, t' D σ H → t D σ H) (h : PS X st t) : PS X st t' := ⟨fun pins s σ H D I q => h.run pins s σ H D I (w D σ H q)⟩
theorem pssT {X : Cx} {st : List Stmt} {t t' : TS} (w : ∀ D σ H, t' D σ H → t D σ H) (h : PSs X st t) : PSs X st t' := ⟨fun pins s σ H D I q => h.run pins s σ H D I (w D σ H q)⟩
def sBad : StM := fun _ _ => .bad
theorem ps_bad {X : Cx} {st : Stmt} {W : Wd} {E : XK} : PS X st (TSt W E sBad) := ⟨fun _ _ _ _ _ _ h => by obtain ⟨_, _, _, _, _, h⟩ := h; exact h.elim⟩
theorem pss_bad {X : Cx} {st : List Stmt} {W : Wd} {E : XK} : PSs X st (TSt W E sBad) := ⟨fun _ _ _ _ _ _ h => by obtain ⟨_, _, _, _, _, h⟩ := h; exact h.elim⟩

def sNil : StM := fun env st => .ok (.nx env) st
def sSeq (a b : StM) : StM := fun env st => (a env st).bind fun f s1 => match f with
  | .nx env1 => b env1 s1
  | f => .ok f s1
def sAsg (t : Tg) (a : EM) : StM := fun env st => (a env st).bind fun d s1 => match bindTg t d env s1 with
  | some env' => .ok (.nx env') s1
  | none => .bad
def sPar (is : List Nat) (a : AM) : StM := fun env st => (a env st).bind fun ds s1 => if ds.length = is.length then .ok (.nx (setAll env is ds)) s1 else .bad
def sRet (a : EM) : StM := fun env st => (a env st).bind fun d s1 => .ok (.rt d) s1
def sRetN : StM := fun _ st => .ok (.rt .non) st
def sIf (c : BM) (a b : StM) : StM := fun env st => (c env st).bind fun x s1 => match x with
  | true => a env s1
  | false => b env s1
def sDrop (a : EM) : StM := fun env st => (a env st).bind fun _ s1 => .ok (.nx env) s1
def setOp (o i v : D) (st : Store) : Option Store :=
  match o with
  | .ref n => match st[n]? with
    | some (.lst ds) => match i with
      | .int k => match ixN ds.length k with
        | some j => some (st.set n (.lst (ds.set j v)))
        | none => none
      | _ => none
    | some (.dct ks) => match keyOf i with
      | some k => if ks.length < big then some (st.set n (.dct (putD ks k v))) else none
      | none => none
    | _ => none
  | _ => none
def sSub (a o i : EM) : StM := fun env st => (a env st).bind fun v s1 => (o env s1).bind fun x s2 => (i env s2).bind fun y s3 => match setOp x y v s3 with
  | some s4 => .ok (.nx env) s4
  | none => .bad
def forLoop (src : Src) (t : Tg) (body : StM) : Nat → Nat → Slt → Store → Out Fl
  | 0, _, _, _ => .bad
  | k + 1, i, env, st => match src.good st i with
    | false => .bad
    | true => match src.at st i with
      | none => .ok (.nx env) st
      | some d => match bindTg t d env st with
        | none => .bad
        | some env2 => (body env2 st).bind fun f s1 => match f with
          | .nx env3 => forLoop src t body k (i + 1) env3 s1
          | .ct env3 => forLoop src t body k (i + 1) env3 s1
          | .bk env3 => .ok (.nx env3) s1
          | .rt d => .ok (.rt d) s1
def sFor (src : SM) (t : Tg) (body : StM) : StM := fun env st => (src env st).bind fun s s1 => forLoop s t body turns 0 env s1

section
variable {X : Cx} {E : XK} {e o i c : Expr} {es : List Expr} {ma mo mi : EM} {bc : BM} {la : AM} {pos : Pos} {S : Sc} {st : Stmt} {sts body : List Stmt} {sa sb : StM}
theorem pss_nilD : PSs X [] (TSt (Wof X) E sNil) := pssT (fun D σ H ⟨ρ, env, st, hE, hR, hP⟩ => hP ρ σ H Ext.refl hE hR) pss_nil
theorem pss_consD (h1 : PS X st (TSt (Wof X) E sa)) (h2 : PSs X sts (TSt (Wof X) E sb)) : PSs X (st :: sts) (TSt (Wof X) E (sSeq sa sb)) :=
  pssT (fun D σ H ⟨ρ, env, st0, hE, hR, hP⟩ => by
    refine ⟨ρ, env, st0, hE, hR, ?_⟩
    unfold sSeq at hP
    cases ho : sa env st0 with
    | bad => rw [ho] at hP; exact hP
    | exn c fs s1 => rw [ho] at hP; exact hP
    | ok f s1 =>
      rw [ho] at hP
      cases f with
      | nx env1 => exact fun ρ1 σ1 H1 e1 hE1 hR1 => ⟨ρ1, env1, s1, hE1, hR1, PostS.ext hP e1⟩
      | rt d => exact hP
      | bk env1 => exact hP
      | ct env1 => exact hP) (pss_cons h1 h2)
theorem asg_rd {t : Tg} {D : Ends} {σ : L2.St} {H : Hp} (h : TSt (Wof X) E (sAsg t ma) D σ H) : tAsg (T (Wof X) E ma) (gTg X.K t) D σ H := by
  obtain ⟨ρ, env, st, hE, hR, hP⟩ := h
  refine ⟨ρ, env, st, hE, hR, bindS hP fun ρ1 H1 d1 v1 st1 e1 r1 p1 hP1 => ?_⟩
  split at hP1
  · rename_i env' hb
    exact bind_ok hb r1 (hE.mono e1) p1 fun σ' hE' _ => hP1 ρ1 σ' H1 Ext.refl hE' r1
  · exact hP1.elim
theorem ps_asgD {tg : Expr} {t : Tg} (he : PE X e (T (Wof X) E ma)) (hg : PG X tg (gTg X.K t)) (hs : swapsWithSole [tg] e pos.line X.env = pure false) (hw : swappedStores [tg] e X.env = pure none)
    (h1 : (assignEach [tg] X.env).map (·.2) = [assign tg X.env]) : PS X (.Assign [tg] e pos) (TSt (Wof X) E (sAsg t ma)) := psT (fun D σ H h => asg_rd h) (ps_asg he hg hs hw h1)
theorem ps_par2D {i j : Nat} {x y : Str} {a b : Expr} {px py pt : Pos} {kt k2 : Nat} {pt2 : Pos} (hc : X.calm = true) (hN : X.N.Nodup) (hi : X.N[i]? = some x) (hj : X.N[j]? = some y) (hij : i ≠ j)
    (hx : X.env.scope.names.lookup x = some .local) (hy : X.env.scope.names.lookup y = some .local) (ha : PA X [a, b] (TAr (Wof X) E la))
    (hw : swappedStores [.Tuple [.Name x px, .Name y py] kt pt] (.Tuple [a, b] k2 pt2) X.env = pure (some [x, y])) :
    PS X (.Assign [.Tuple [.Name x px, .Name y py] kt pt] (.Tuple [a, b] k2 pt2) pos) (TSt (Wof X) E (sPar [i, j] la)) :=
  psT (fun D σ H ⟨ρ, env, st, hE, hR, hP⟩ => ⟨ρ, env, st, hE, hR, bindS hP fun ρ1 H1 ds vs st1 e1 r1 p1 hP1 => by
    split at hP1
    · rename_i hl
      have hv : vs.length = 2 := p1.length.trans hl
      match vs, hv with
      | [v, w], _ => exact ⟨v, w, rfl, hP1 ρ1 _ H1 Ext.refl (setAll_ok (is := [i, j]) (vs := [v, w]) (hE.mono e1) p1) r1⟩
    · exact hP1.elim⟩) (ps_par hc hN hi hj hij hx hy ha hw)
theorem ps_retD (he : PE X e (T (Wof X) E ma)) : PS X (.Return (some e) pos) (TSt (Wof X) E (sRet ma)) :=
  psT (fun D σ H ⟨ρ, env, st, hE, hR, hP⟩ => ⟨ρ, env, st, hE, hR, bindS hP fun ρ1 H1 d1 v1 st1 e1 r1 p1 hP1 => hP1 ρ1 H1 v1 Ext.refl r1 p1⟩) (ps_ret he)
theorem ps_retND : PS X (.Return none pos) (TSt (Wof X) E sRetN) :=
  psT (fun D σ H ⟨ρ, env, st, hE, hR, hP⟩ => hP ρ H .non Ext.refl hR (rep_non.mpr rfl)) ps_retN
theorem ps_passD : PS X (.Pass pos) (TSt (Wof X) E sNil) := psT (fun D σ H ⟨ρ, env, st, hE, hR, hP⟩ => hP ρ σ H Ext.refl hE hR) ps_pass
theorem ps_ifD (hc : PT X c (TB (Wof X) E bc)) (ha : PSs X sts (TSt (Wof X) E sa)) (hb : PSs X body (TSt (Wof X) E sb)) : PS X (.If c sts body pos) (TSt (Wof X) E (sIf bc sa sb)) :=
  psT (fun D σ H ⟨ρ, env, st, hE, hR, hP⟩ => ⟨ρ, env, st, hE, hR, bindS hP fun ρ1 H1 d1 v1 st1 e1 r1 p1 hP1 => by
    have e : v1 = d1 := p1
    subst e
    cases v1 with
    | true => rw [if_pos rfl]; exact ⟨ρ1, env, st1, hE.mono e1, r1, hP1⟩
    | false => rw [if_neg Bool.false_ne_true]; exact ⟨ρ1, env, st1, hE.mono e1, r1, hP1⟩⟩) (ps_if hc ha hb)
theorem ps_dropD (he : PE X e (T (Wof X) E ma)) (hs : swapsWith e none pos.line X.env = pure false) : PS X (.Expr e pos) (TSt (Wof X) E (sDrop ma)) :=
  psT (fun D σ H ⟨ρ, env, st, hE, hR, hP⟩ => ⟨ρ, env, st, hE, hR, bindS hP fun ρ1 H1 d1 v1 st1 e1 r1 p1 hP1 => hP1 ρ1 σ H1 Ext.refl (hE.mono e1) r1⟩) (ps_expr he hs)
/-! o[i] = v -/
def SetV (X : Cx) : TSet := fun o i v H Q => ∀ (pins : List (Addr × Obj)) (s : Shared) (σ : L2.St) (ov iv u : Value), Inv X pins σ H s → RelV o ov → RelV i iv → RelV v u → wpAny (model X.prog X.w) X.A (setItem ov iv u) (fun _ s' => ∃ H', Inv X pins σ H' s' ∧ Q H') X.xe s
theorem setv : PSet X (SetV X) := fun pins s σ H o i v ov iv u Q I r1 r2 r3 h => h pins s σ ov iv u I r1 r2 r3
theorem SetV.of {t : TSet} (h : PSet X t) {o i v : V} {H : Hp} {Q : Hp → Prop} (q : t o i v H Q) : SetV X o i v H Q := fun pins s σ ov iv u I r1 r2 r3 => h pins s σ H o i v ov iv u Q I r1 r2 r3 q
theorem set_ok {x y d : D} {o i v : V} {st st' : Store} {ρ : List Addr} {H : Hp} {Q : Hp → Prop} (hu : X.A.units + 200 < cLine) (r : Rel (Wof X) ρ st H) (hx : Rep (Wof X) ρ H x o) (hy : Rep (Wof X) ρ H y i) (hd : Rep (Wof X) ρ H d v) (h : setOp x y d st = some st')
    (q : ∀ H', Ext (Wof X) ρ H ρ H' → Rel (Wof X) ρ st' H' → Q H') : SetV X o i v H Q := by
  have hu1 : X.A.units + 1 < cLine := by omega
  unfold setOp at h
  split at h
  · rename_i n
    split at h
    · rename_i ds e
      obtain ⟨a, vs, rfl, h0, h1, h2⟩ := lst_at r hx e
      split at h
      · rename_i k
        cases rep_int.mp hy
        split at h
        · rename_i j ej
          cases h
          have ex : Ext (Wof X) ρ H ρ (upd H a (.lst (vs.set j v))) := Ext.write r h0 e trivial
          exact SetV.of set_list ⟨a, vs, k, j, rfl, rfl, h1, by rw [h2.length]; exact ej, q _ ex (r.write (c' := .lst (ds.set j d)) h0 e trivial ⟨_, upd_same, Reps.mono ex _ _ (h2.set j hd)⟩)⟩
        · cases h
      · cases h
    · rename_i ks e
      obtain ⟨a, ws, rfl, h0, h1, h2⟩ := dct_at r hx e
      split at h
      · rename_i k ek
        split at h
        · rename_i hz
          cases h
          cases key_ok ek hy
          have ex : Ext (Wof X) ρ H ρ (upd H a (.dK (putK ws k v))) := Ext.write r h0 e trivial
          exact SetV.of (set_dict hu1) ⟨a, _, rfl, DPut.k h1 (by rw [h2.len]; exact sz_bigL hz), q _ ex (r.write (c' := .dct (putD ks k d)) h0 e trivial ⟨_, upd_same, KReps.mono ex (put_ok hd h2)⟩)⟩
        · cases h
      · cases h
    · cases h
  · cases h
theorem ps_subD {p2 : Pos} (hu : X.A.units + 200 < cLine) (he : PE X e (T (Wof X) E ma)) (ho : PE X o (T (Wof X) E mo)) (hi : PE X i (T (Wof X) E mi)) (hns : ∀ l h p, i ≠ .Slice l h none p) : PS X (.Assign [.Subscript o i p2] e pos) (TSt (Wof X) E (sSub ma mo mi)) := by
  have hs : swapsWithSole [.Subscript o i p2] e pos.line X.env = pure false := by cases e <;> rfl
  have hw : swappedStores [.Subscript o i p2] e X.env = pure none := by cases e <;> rfl
  have ha : ∀ v, assign (.Subscript o i p2) X.env v = (do
      let ov ← holding [v] (eval o X.env)
      let iv ← holding [v, ov] (eval i X.env)
      standAt p2
      holding [v, ov, iv] (setItem ov iv v)
      release [v, ov, iv] []) := by
    intro v
    cases i with
    | Slice l h st p => cases st with
      | none => exact absurd rfl (hns l h p)
      | some z => rfl
    | _ => rfl
  refine psT (fun D σ H ⟨ρ, env, st, hE, hR, hP⟩ => ⟨ρ, env, st, hE, hR, bindS hP fun ρ1 H1 d1 v1 st1 e1 r1 p1 hP1 => ⟨ρ1, env, st1, hE.mono e1, r1, bindS hP1 fun ρ2 H2 d2 v2 st2 e2 r2 p2 hP2 =>
    ⟨ρ2, env, st2, (hE.mono e1).mono e2, r2, bindS hP2 fun ρ3 H3 d3 v3 st3 e3 r3 p3 hP3 => ?_⟩⟩⟩) (ps_asg he (pg_sub ho hi setv ha) hs hw rfl)
  split at hP3
  · rename_i s4 h4
    exact set_ok hu r3 (Rep.mono e3 _ _ p2) p3 (Rep.mono (e2.trans e3) _ _ p1) h4 fun H' ex r4 => hP3 ρ3 σ H' ex ((((hE.mono e1).mono e2).mono e3).mono ex) r4
  · exact hP3.elim
/-! for -/
theorem for_rd {src : SM} {t : Tg} {D : Ends} {σ : L2.St} {H : Hp} (h : TSt (Wof X) E (sFor src t sa) D σ H) : tFor (TIt (Wof X) E src) (gTg X.K t) (TSt (Wof X) E sa) D σ H := by
  obtain ⟨ρ, env, st, hE, hR, hP⟩ := h
  refine ⟨ρ, env, st, hE, hR, bindS hP fun ρ1 H1 s J st1 e1 r1 p1 hP1 => ?_⟩
  refine ⟨fun i m σ' H' => ∃ ρ' env' st', Ext (Wof X) ρ1 H1 ρ' H' ∧ RelE (Wof X) ρ' H' env' σ' ∧ Rel (Wof X) ρ' st' H' ∧ PostS (Wof X) E ρ' H' (forLoop s t sa m i env' st') D,
    ⟨turns, ρ1, env, st1, Ext.refl, hE.mono e1, r1, hP1⟩, fun i m σ' H' hW => ?_⟩
  obtain ⟨ρ', env', st', ex2, hE2, r2, hP2⟩ := hW
  cases m with
  | zero => exact hP2.elim
  | succ k =>
    unfold forLoop at hP2
    split at hP2
    · exact hP2.elim
    · rename_i hg
      have hdr := p1 ρ' H' st' i ex2 r2 hg
      split at hP2
      · rename_i hat
        rw [hat] at hdr
        exact .inl ⟨hdr, hP2 ρ' σ' H' Ext.refl hE2 r2⟩
      · rename_i d hat
        rw [hat] at hdr
        refine .inr ⟨hdr.1, fun σ'' H'' => ∃ ρ'' env'' st'', Ext (Wof X) ρ1 H1 ρ'' H'' ∧ RelE (Wof X) ρ'' H'' env'' σ'' ∧ Rel (Wof X) ρ'' st'' H'' ∧ PostS (Wof X) E ρ'' H'' (forLoop s t sa k (i + 1) env'' st'') D,
          fun σ'' H'' h'' => ⟨k, Nat.lt_succ_self k, h''⟩, fun x H3 y => ?_⟩
        obtain ⟨ex3, r3, p3⟩ := hdr.2 x H3 y
        split at hP2
        · exact hP2.elim
        · rename_i env2 hb
          refine bind_ok hb r3 (hE2.mono ex3) p3 fun σ2 hE3 _ => ⟨ρ', env2, st', hE3, r3, ?_⟩
          have hP3 := PostS.ext hP2 ex3
          cases ho : sa env2 st' with
          | bad => rw [ho] at hP3; exact hP3
          | exn c fs s1 => rw [ho] at hP3; exact hP3
          | ok f s1 =>
            rw [ho] at hP3
            cases f with
            | nx env3 => exact fun ρ4 σ4 H4 e4 hE4 r4 => ⟨ρ4, env3, s1, (ex2.trans ex3).trans e4, hE4, r4, PostS.ext hP3 e4⟩
            | ct env3 => exact fun ρ4 σ4 H4 e4 hE4 r4 => ⟨ρ4, env3, s1, (ex2.trans ex3).trans e4, hE4, r4, PostS.ext hP3 e4⟩
            | bk env3 => exact hP3
            | rt d => exact hP3
theorem ps_forD {tg iter : Expr} {src : SM} {t : Tg} (hp : PassesOwn (model X.prog X.w) X.A X.env X.xe) (hc : X.calm = true) (hi : PI X tg iter (TIt (Wof X) E src)) (hg : PG X tg (gTg X.K t)) (hb : PSs X body (TSt (Wof X) E sa)) (hs : ∀ x, foldedSetIterable iter X.env x = pure x) :
    PS X (.For tg iter body [] pos) (TSt (Wof X) E (sFor src t sa)) := psT (fun D σ H h => for_rd h) (ps_for hp hc hi hg hb hs)
end
end Dp
set_option Elab.async false
set_option linter.all false
set_option maxRecDepth 100000
set_option maxHeartbeats 4000000
/-! Dp11: expressions read, all at once. -/
namespace Dp
open PySem PySem.Spec PyProof.Rows L2

/-- what a def's code may name -/
structure Cfg where
  N : List Str
  gl : Str → Option D
  bi : Str → Option Bi
  fr : Str → Bool
  cl : Str → Option (Nat × (List D → Store → Out D))
  kw : Str → List Str → Option (List Nat)
  rs : Str → Option (Option Str)
  xn : Str → Bool
  xm : Str → Str → Option Bool
  xf : Str → Str → Bool
  xi : Str → Str → Option Bool
structure Ev where
  E : Sc → Expr → EM
  B : Sc → Expr → BM
  W : BoolOp → Sc → List Expr → BM
  A : Sc → List Expr → AM
  I : Sc → Expr → Expr → SM
  O : Sc → Option Expr → OM
def Ev.bad : Ev := ⟨fun _ _ => mBad, fun _ _ => mBad, fun _ _ _ => mBad, fun _ _ => mBad, fun _ _ _ => mBad, fun _ _ => mBad⟩
def ownOf (N : List Str) : List (Str × NameKind) → List (Str × Nat)
  | [] => []
  | (x, k) :: r => match k with
    | .local => (match slot N x with | some i => (x, i) :: ownOf N r | none => ownOf N r)
    | .cell => (match slot N x with | some i => (x, i) :: ownOf N r | none => ownOf N r)
    | _ => ownOf N r
def Sc.blk (S : Sc) (scope : Scope) : Sc := ⟨relS scope S.sc, fun x => scope.names.lookup x == some .cell⟩
def inAll (is js : List Nat) : Bool := is.all fun i => js.any fun j => i == j
def notSet : Expr → Bool
  | .Set _ _ _ => false
  | _ => true
def plainIx : Expr → Bool
  | .Slice _ _ _ _ => false
  | _ => true
def plainT : Expr → Bool
  | .UnaryOp _ _ _ => false
  | .BoolOp _ _ _ => false
  | .IfExp _ _ _ _ => false
  | .Compare _ _ _ _ => false
  | _ => true
def kwNames : List Keyword → Option (List Str)
  | [] => some []
  | ⟨some x, _, _⟩ :: r => (kwNames r).map fun xs => x :: xs
  | _ => none
section
variable (c : Cfg) (r : Ev) (S : Sc)
def rName (x : Str) : EM := match S.sc.names.lookup x with
  | some .local => (match slot c.N x with | some i => mSlot i | none => mBad)
  | some .cell => (match slot c.N x with | some i => mSlot i | none => mBad)
  | some .free => (match slot c.N x with | some i => mSlot i | none => mBad)
  | some .globalImplicit => (match c.gl x with | some d => mC d | none => mBad)
  | _ => mBad
def rArgs : List Expr → AM
  | [] => mNil
  | e :: es => (match plainArgs (e :: es) with | true => r.A S (e :: es) | false => mBad)
def kwArgs : List Keyword → AM
  | [] => mNil
  | ⟨_, e, _⟩ :: ks => mCons (r.E S e) (kwArgs ks)
def rIfs : List Expr → BM
  | [] => fun _ st => .ok true st
  | [e] => r.B S e
  | _ => mBad
def rComp {α : Type} (bad : α) (tg iter : Expr) (scope : Scope) (k : Tg → List Nat → α) : α :=
  match notSet iter && blkC c.N S.sc scope (ownOf c.N scope.names), tgOf c.N (S.blk scope) tg with
  | true, some t => (match inAll t.slots ((ownOf c.N scope.names).map (·.2)) with | true => k t ((ownOf c.N scope.names).map (·.2)) | false => bad)
  | _, _ => bad
def rCallN (x : Str) (es : List Expr) (kws : List Keyword) : EM := match S.sc.names.lookup x with
  | some .globalImplicit => (match kws with
    | [] => (match c.cl x with
      | some (n, f) => mCall n f (rArgs r S es)
      | none => (match c.bi x, es with
        | some b, e :: es' => mCallB b (rArgs r S (e :: es'))
        | _, _ => mBad))
    | kws => (match es, c.cl x, kwNames kws with
      | [], some (n, f), some ks => (match c.kw x ks with | some pm => mCallK f pm (kwArgs r S kws) | none => mBad)
      | _, _, _ => mBad))
  | _ => mBad
def meOf (x : Str) : Option Me := if x = Me.append.name then some .append else if x = Me.pop.name then some .pop else if x = Me.split.name then some .split else none
def rMeth (o : Expr) (m : Str) (ap cp : Pos) (es : List Expr) : EM := match meOf m, es with
  | some f, e :: es' => (match plainArgs (e :: es') && plainBase o && (ap.endLine == cp.line) && decide ((e :: es').length < 20) with
    | true => mMeth f (r.E S o) (r.A S (e :: es'))
    | false => mBad)
  | _, _ => mBad
def rSub (o ix : Expr) : EM := match ix with
  | .Slice lo hi none _ => mSl (r.E S o) (r.O S lo) (r.O S hi)
  | .Slice none none (some (.UnaryOp .USub (.Constant (.int 1) _ _) _)) _ => mRev (r.E S o)
  | .Slice _ _ _ _ => mBad
  | ix => mIx (r.E S o) (r.E S ix)
def rCmp (l : Expr) (ops : List CmpOp) (cs : List Expr) : EM := match ops, cs with
  | [op], [b] => (match behindInMarks op b with | false => mCmp op (r.E S l) (r.E S b) | true => mBad)
  | [op, op'], [b, d] => (match lastMarks [op, op'] [b, d] with | false => mChain op op' (r.E S l) (r.E S b) (r.E S d) | true => mBad)
  | _, _ => mBad
def rBool (op : BoolOp) (es : List Expr) (pos : Pos) : EM := match op, es with
  | .And, a :: b :: es' => mAnd (r.E S a) (match es' with | [] => r.E S b | _ => r.E S (.BoolOp .And (b :: es') pos))
  | .Or, a :: b :: es' => mOr (r.E S a) (match es' with | [] => r.E S b | _ => r.E S (.BoolOp .Or (b :: es') pos))
  | _, _ => mBad
def stepE (e : Expr) : EM := match e with
  | .Constant k _ _ => mConst k
  | .Name x _ => rName c S x
  | .BinOp a o b _ => mBin o (r.E S a) (r.E S b)
  | .UnaryOp .Not a _ => mNot (r.E S a)
  | .UnaryOp o a _ => mUn o (r.E S a)
  | .Compare l ops cs _ => rCmp r S l ops cs
  | .BoolOp op es pos => rBool r S op es pos
  | .IfExp t a b _ => mIf (r.B S t) (r.E S a) (r.E S b)
  | .Tuple es _ _ => mTup (r.A S es)
  | .List es _ => mLst (r.A S es)
  | .Subscript o ix _ => rSub r S o ix
  | .Call (.Name x _) es kws _ => rCallN c r S x es kws
  | .Call (.Attribute o m ap) es [] cp => rMeth r S o m ap cp es
  | .Call (.Subscript a i p) (e :: es) [] _ => (match plainArgs (e :: es) with | true => mCallF c.cl (r.E S (.Subscript a i p)) (r.A S (e :: es)) | false => mBad)
  | .ListComp elt [⟨tg, iter, ifs, 0⟩] scope _ => rComp c S mBad tg iter scope fun t vs => mLc (r.I S tg iter) vs t (rIfs r (S.blk scope) ifs) (r.E (S.blk scope) elt)
  | .DictComp key elt [⟨tg, iter, ifs, 0⟩] scope _ => rComp c S mBad tg iter scope fun t vs => mDc (r.I S tg iter) vs t (rIfs r (S.blk scope) ifs) (r.E (S.blk scope) key) (r.E (S.blk scope) elt)
  | _ => mBad
def stepB (e : Expr) : BM := match e with
  | .UnaryOp .Not a _ => mNotB (r.B S a)
  | .UnaryOp _ _ _ => mBad
  | .BoolOp op es _ => r.W op S es
  | .IfExp t a b _ => mIfB (r.B S t) (r.B S a) (r.B S b)
  | .Compare l ops cs _ => asB (rCmp r S l ops cs)
  | e => mTru (r.E S e)
def stepW (op : BoolOp) (es : List Expr) : BM := match op, es with
  | _, [a] => r.B S a
  | .And, a :: b :: es => mAndB (r.B S a) (r.W .And S (b :: es))
  | .Or, a :: b :: es => mOrB (r.B S a) (r.W .Or S (b :: es))
  | _, _ => mBad
def stepA (es : List Expr) : AM := match es with
  | [] => mNil
  | .Starred e _ :: es => mStar (r.E S e) (r.A S es)
  | e :: es => mCons (r.E S e) (r.A S es)
def isTuple : Expr → Bool
  | .Tuple _ _ _ => true
  | _ => false
def stepI (tg e : Expr) : SM := match e with
  | .Call (.Name x p) es kws pos => (match S.sc.names.lookup x, kws with
    | some .globalImplicit, [] =>
      if x = "range" ∧ c.fr x = true then (match es with | [a] => if plainArgs [a] = true then mRange (r.A S [a]) else mBad | _ => mBad)
      else if x = "enumerate" ∧ c.fr x = true ∧ isTuple tg = true then (match es with | [a] => if plainArgs [a] = true then mEnum (r.A S [a]) else mBad | _ => mBad)
      else if x = "zip" ∧ c.fr x = true ∧ isTuple tg = true then (match es with | [a, b] => if plainArgs [a, b] = true then mZip (r.A S [a, b]) else mBad | _ => mBad)
      else mSrc (r.E S (.Call (.Name x p) es kws pos))
    | _, _ => mSrc (r.E S (.Call (.Name x p) es kws pos)))
  | e => mSrc (r.E S e)
def stepO (e : Option Expr) : OM := match e with
  | none => mNoPart
  | some e => mPart (r.E S e)
def step : Ev := ⟨fun S e => stepE c r S e, fun S e => stepB r S e, fun op S es => stepW r S op es, fun S es => stepA r S es, fun S tg e => stepI c r S tg e, fun S e => stepO r S e⟩
end
def ev (c : Cfg) : Nat → Ev
  | 0 => Ev.bad
  | n + 1 => step c (ev c n)

/-- the context is as the reading takes it -/
structure Gd (c : Cfg) (S : Sc) (X : Cx) (E : XK) : Prop where
  N : X.N = c.N
  nd : c.N.Nodup
  ndb : ∀ x ∈ c.N, (x == ("__debug__" : Str)) = false ∧ (x == ("__classdict__" : Str)) = false
  calm : X.calm = true
  room : X.A.units + 200 < cLine
  sc : X.env.scope = S.sc
  fn : X.fn = S.fn
  kind : S.sc.kind = .function
  gl : ∀ x d, c.gl x = some d → ∃ v u, RelV v u ∧ (X.mg x = some u ∨ (X.mg x = none ∧ x ≠ "__name__" ∧ bootBuiltins x = some u)) ∧ (x == ("__debug__" : Str)) = false ∧ ∀ ρ H, Rep (Wof X) ρ H d v
  bi : ∀ x f, c.bi x = some f → X.mg x = none ∧ bootBuiltins x = some f.val ∧ x ≠ "__name__" ∧ (x == ("__debug__" : Str)) = false
  fr : ∀ x, c.fr x = true → X.mg x = none
  cl : ∀ x n f, c.cl x = some (n, f) → ∃ k a fd ps, FnOk X.prog X.w X.K X.mg X.base (L2.CX X.prog X.w) k a fd ps (spOf (Wof X) n f) ∧ Room k X.A ∧ X.mg x = some (.ref a) ∧ PySem.W.keepIn X.K (.ref a) = true ∧ Binds X.K fd ps [] ∧ n = ps.length ∧
    (x == ("__debug__" : Str)) = false ∧ ∀ ks pm, c.kw x ks = some pm → KwOk X fd ps ks pm
  ps : Passes (L2.CX X.prog X.w) X E
theorem Gd.blk {c : Cfg} {S : Sc} {X : Cx} {E : XK} (G : Gd c S X E) {scope : Scope} (hk : scope.kind = .function) (s : Shared) (H : Hp) (C : Addr) (cl : List (Str × Addr)) (fp : List Addr) :
    Gd c (S.blk scope) (X.blk s H scope (compEnvC scope cl C X.env) fp) E0 :=
  ⟨G.N, G.nd, G.ndb, G.calm, G.room, by show relS scope X.env.scope = relS scope S.sc; rw [G.sc], rfl, hk, G.gl, G.bi, G.fr, G.cl, passL⟩
structure Snd (c : Cfg) (r : Ev) : Prop where
  E : ∀ S X E, Gd c S X E → ∀ e, PE X e (T (Wof X) E (r.E S e))
  B : ∀ S X E, Gd c S X E → ∀ e, PT X e (TB (Wof X) E (r.B S e))
  W : ∀ S X E, Gd c S X E → ∀ op es pos, PW X (.BoolOp op es pos) (TB (Wof X) E (r.W op S es))
  A : ∀ S X E, Gd c S X E → ∀ es, PA X es (TAr (Wof X) E (r.A S es))
  I : ∀ S X E, Gd c S X E → ∀ tg e, PI X tg e (TIt (Wof X) E (r.I S tg e))
  O : ∀ S X E, Gd c S X E → ∀ e, PO X e (TOp (Wof X) E (r.O S e))
theorem pi_bad {X : Cx} {tg e : Expr} {W : Wd} {E : XK} : PI X tg e (TIt W E mBad) := ⟨fun _ _ _ _ _ _ h => by obtain ⟨_, _, _, _, _, h⟩ := h; exact h.elim⟩
theorem po_bad {X : Cx} {e : Option Expr} {W : Wd} {E : XK} : PO X e (TOp W E mBad) := ⟨fun _ _ _ _ _ _ h => by obtain ⟨_, _, _, _, _, h⟩ := h; exact h.elim⟩
theorem Snd.bad {c : Cfg} : Snd c Ev.bad := ⟨fun _ _ _ _ _ => pe_bad, fun _ _ _ _ _ => pt_bad, fun _ _ _ _ _ _ _ => pw_bad, fun _ _ _ _ _ => pa_bad, fun _ _ _ _ _ _ => pi_bad, fun _ _ _ _ _ => po_bad⟩

section
variable {c : Cfg} {r : Ev} {S : Sc} {X : Cx} {E : XK}
theorem Gd.slot (G : Gd c S X E) {x : Str} {i : Nat} {pos : Pos} (h : Dp.slot c.N x = some i) (hv : Vis S.sc x) : PE X (.Name x pos) (T (Wof X) E (mSlot i)) := by
  have h1 := slot_ok h
  have h2 := G.ndb x (List.mem_of_getElem? h1)
  exact pe_slotD (by rw [G.N]; exact h1) (by rw [G.sc]; exact hv) h2.1 h2.2
theorem Gd.glob (G : Gd c S X E) {x : Str} (h : S.sc.names.lookup x = some .globalImplicit) : Gl X x := by
  show X.env.scope.names.lookup x = _
  rw [G.sc]
  exact h
theorem snd_name (G : Gd c S X E) (x : Str) (pos : Pos) : PE X (.Name x pos) (T (Wof X) E (rName c S x)) := by
  unfold rName
  split
  · rename_i h
    split
    · rename_i i hi; exact G.slot hi (.inl h)
    · exact pe_bad
  · rename_i h
    split
    · rename_i i hi; exact G.slot hi (.inr (.inl h))
    · exact pe_bad
  · rename_i h
    split
    · rename_i i hi; exact G.slot hi (.inr (.inr h))
    · exact pe_bad
  · rename_i h
    split
    · rename_i d hd
      obtain ⟨v, u, r1, r2, r3, r4⟩ := G.gl x d hd
      exact pe_globD (G.glob h) r1 r2 r3 r4
    · exact pe_bad
  · exact pe_bad
theorem snd_args (R : Snd c r) (G : Gd c S X E) (es : List Expr) : PA X es (TAr (Wof X) E (rArgs r S es)) ∧ (rArgs r S es = mBad ∨ plainArgs es = true) ∧ (es = [] → rArgs r S es = mNil) := by
  cases es with
  | nil => exact ⟨pa_nilD, .inr rfl, fun _ => rfl⟩
  | cons e es =>
    have e0 : rArgs r S (e :: es) = (match plainArgs (e :: es) with | true => r.A S (e :: es) | false => mBad) := rfl
    rw [e0]
    cases h : plainArgs (e :: es) with
    | true => exact ⟨R.A S X E G _, .inr rfl, nofun⟩
    | false => exact ⟨pa_bad, .inl rfl, nofun⟩
end
end Dp
set_option Elab.async false
set_option linter.all false
set_option maxRecDepth 100000
set_option maxHeartbeats 4000000
/-! DpF: a call of a function that an expression gives: [f, g][i](..). -/
namespace Dp
open PySem PySem.Spec PyProof.Rows L2
theorem arm_callF {a i : Expr} {p pos : Pos} {es : List Expr} {env : PySem.Env} : eval (.Call (.Subscript a i p) es [] pos) env = (do callWith pos (← eval (.Subscript a i p) env) [] (backTo pos (starEach es env)) (backToKw pos (keywordEach [] env))) := by
  first
    | rfl
    | (rw [eval])
theorem pe_callFD {c : Cfg} {S : Sc} {X : Cx} {E : XK} {a i e : Expr} {es : List Expr} {p pos : Pos} {mo : EM} {la : AM} (G : Gd c S X E) (ho : PE X (.Subscript a i p) (T (Wof X) E mo)) (ha : PA X (e :: es) (TAr (Wof X) E la)) (hpl : plainArgs (e :: es) = true) :
    PE X (.Call (.Subscript a i p) (e :: es) [] pos) (T (Wof X) E (mCallF c.cl mo la)) := by
  obtain ⟨h1, h2⟩ := plain_cons hpl
  refine ⟨fun pins s σ H Q I h => ?_⟩
  obtain ⟨ρ, env, st, hE, hR, hP⟩ := h
  rw [arm_callF]
  refine wpAny_bind (thn (ho.run pins s σ H (fun v H1 => ∃ x n f b ρ1 st1, v = .ref b ∧ X.mg x = some (.ref b) ∧ c.cl x = some (n, f) ∧ RelE (Wof X) ρ1 H1 env σ ∧ Rel (Wof X) ρ1 st1 H1 ∧ PostD (Wof X) E ρ1 H1 ((la env st1).bind fun ds s2 => if ds.length = n then f ds s2 else .bad) Q) I
    ⟨ρ, env, st, hE, hR, bindT hP fun ρ1 H1 d1 v1 st1 e1 r1 p1 hP1 => ?_⟩) fun u s1 ⟨v, H1, I1, rv, q1⟩ => ?_)
  · split at hP1
    · rename_i x
      obtain ⟨b, rfl, hb⟩ := rep_fn.mp p1
      split at hP1
      · rename_i n f hcl
        exact ⟨x, n, f, b, ρ1, st1, rfl, hb, hcl, hE.mono e1, r1, hP1⟩
      · exact hP1.elim
    · exact hP1.elim
  · obtain ⟨x, n, f, b, ρ1, st1, rfl, hb, hcl, hE1, hR1, hP1⟩ := q1
    obtain rfl : u = Value.ref b := rv
    obtain ⟨k, f', fd, ps, F, hr, hm, hk, hbi, hn, hd, _⟩ := G.cl x n f hcl
    rw [hb] at hm
    cases hm
    refine PySem.W.callWith_K (h₀ := X.base) I1.ok.mod.kin hk (thn (ha.run pos pins s1 σ H1 (fun vs H2 => spOf (Wof X) n f vs H2 Q E) I1 ⟨ρ1, env, st1, hE1, hR1, bindT hP1 fun ρ2 H2 d2 v2 st2 e2 r2 p2 hP2 => ?_⟩) fun us s2 ⟨vs, H2, I2, r, q⟩ => ⟨I2.kIn, ?_⟩) (h2 _) (plain_any h1)
    · split at hP2
      · rename_i hl
        exact ⟨p2.length.trans hl, ρ2, st2, d2, p2, r2, hP2⟩
      · exact hP2.elim
    · have := run_fn (dvs := []) (ds := []) F hr hbi .nil G.ps I2 r (by rw [List.append_nil]; exact q)
      exact this
end Dp
set_option Elab.async false
set_option linter.all false
set_option maxRecDepth 100000
set_option maxHeartbeats 4000000
/-! Dp12: the readings are sound. -/
namespace Dp
open PySem PySem.Spec PyProof.Rows L2
section
variable {c : Cfg} {r : Ev} {S : Sc} {X : Cx} {E : XK}
theorem mCall_bad {n : Nat} {f : List D → Store → Out D} : mCall n f mBad = mBad := rfl
theorem mCallB_bad {f : Bi} : mCallB f mBad = mBad := rfl
theorem kw_all {env : PySem.Env} {pos : Pos} : ∀ {kws : List Keyword} {ks : List Str}, kwNames kws = some ks →
    (backToKw pos (keywordEach kws env)).all (·.1.isSome) = true ∧ (backToKw pos (keywordEach kws env)).filterMap (·.1) = ks ∧ (backToKw pos (keywordEach kws env)).any (·.1.isNone) = false ∧ kws.length = ks.length
  | [], ks, h => by cases h; exact ⟨rfl, rfl, rfl, rfl⟩
  | ⟨some x, e, p⟩ :: r, ks, h => by
    unfold kwNames at h
    cases hr : kwNames r with
    | none => rw [hr] at h; cases h
    | some xs =>
      rw [hr] at h
      cases h
      obtain ⟨h1, h2, h3, h4⟩ := kw_all (env := env) (pos := pos) hr
      refine ⟨?_, ?_, ?_, ?_⟩
      · show (true && (backToKw pos (keywordEach r env)).all (·.1.isSome)) = true
        rw [h1]; rfl
      · show x :: (backToKw pos (keywordEach r env)).filterMap (·.1) = _
        rw [h2]
      · show (false || (backToKw pos (keywordEach r env)).any (·.1.isNone)) = false
        rw [h3]; rfl
      · rw [List.length_cons, List.length_cons, h4]
  | ⟨none, e, p⟩ :: r, ks, h => by cases h
theorem kw_len : ∀ {kws : List Keyword} {env : Slt} {st s1 : Store} {ds : List D}, kwArgs r S kws env st = .ok ds s1 → ds.length = kws.length
  | [], env, st, s1, ds, h => by cases h; rfl
  | ⟨n, e, p⟩ :: ks, env, st, s1, ds, h => by
    unfold kwArgs mCons at h
    cases ho : r.E S e env st with
    | bad => rw [ho] at h; cases h
    | exn c fs s => rw [ho] at h; cases h
    | ok d s =>
      rw [ho] at h
      dsimp only [Out.bind] at h
      cases hk : kwArgs r S ks env s with
      | bad => rw [hk] at h; cases h
      | exn c fs s => rw [hk] at h; cases h
      | ok xs s2 =>
        rw [hk] at h
        cases h
        rw [List.length_cons, List.length_cons, kw_len hk]
theorem snd_kw (R : Snd c r) (G : Gd c S X E) : ∀ kws : List Keyword, PK X kws (TAr (Wof X) E (kwArgs r S kws))
  | [] => pk_nilD
  | ⟨n, e, p⟩ :: ks => pk_consD (R.E S X E G e) (snd_kw R G ks)
theorem snd_call (R : Snd c r) (G : Gd c S X E) (x : Str) (p pos : Pos) (es : List Expr) (kws : List Keyword) : PE X (.Call (.Name x p) es kws pos) (T (Wof X) E (rCallN c r S x es kws)) := by
  unfold rCallN
  split
  · rename_i hg
    have hg := G.glob hg
    obtain ⟨ha, hb, hc⟩ := snd_args R G es
    split
    · split
      · rename_i n f hcl
        obtain ⟨k, a, fd, ps, F, hr, hm, hk, hbi, hn, hd, _⟩ := G.cl x n f hcl
        rcases hb with hb | hb
        · rw [hb, mCall_bad]; exact pe_bad
        · exact pe_callD F hr hg hm hk hbi G.ps ha hb hc hd
      · split
        · rename_i b e es' hbi
          obtain ⟨h1, h2, h3, h4⟩ := G.bi x b hbi
          rcases hb with hb | hb
          · rw [hb, mCallB_bad]; exact pe_bad
          · exact pe_callBD G.calm G.room hg h1 h2 ha hb h3 h4
        · exact pe_bad
    · split
      · rename_i n f ks hcl hks
        split
        · rename_i pm hpm
          obtain ⟨k, a, fd, ps, F, hr, hm, hk, hbi, hn, hd, hkw⟩ := G.cl x n f hcl
          obtain ⟨k1, k2, k3, k4⟩ := kw_all (env := X.env) (pos := pos) hks
          exact pe_callKD F hr hg hm hk (hkw ks pm hpm) G.ps hn (snd_kw R G _) k1 k2 k3 (fun env st ds s1 h => (kw_len h).trans k4) hd
        · exact pe_bad
      · exact pe_bad
  · exact pe_bad
theorem meOf_ok {x : Str} {f : Me} (h : meOf x = some f) : x = f.name := by
  unfold meOf at h
  split at h
  · cases h; assumption
  · split at h
    · cases h; assumption
    · split at h
      · cases h; assumption
      · cases h
theorem snd_meth (R : Snd c r) (G : Gd c S X E) (o : Expr) (m : Str) (ap cp : Pos) (es : List Expr) : PE X (.Call (.Attribute o m ap) es [] cp) (T (Wof X) E (rMeth r S o m ap cp es)) := by
  unfold rMeth
  split
  · rename_i f e es' hm
    split
    · rename_i h
      simp only [Bool.and_eq_true, decide_eq_true_eq] at h
      obtain ⟨⟨⟨h1, h2⟩, h3⟩, h4⟩ := h
      rw [meOf_ok hm]
      exact pe_meD (R.E S X E G o) (R.A S X E G _) h1 h4 h2 h3
    · exact pe_bad
  · exact pe_bad
theorem snd_sub (R : Snd c r) (G : Gd c S X E) (o ix : Expr) (pos : Pos) : PE X (.Subscript o ix pos) (T (Wof X) E (rSub r S o ix)) := by
  unfold rSub
  split
  · exact pe_slD (R.E S X E G o) (R.O S X E G _) (R.O S X E G _)
  · exact pe_revD (R.E S X E G o)
  · exact pe_bad
  · rename_i h1 h2 h3
    refine pe_ixD G.room (R.E S X E G o) (R.E S X E G _) ?_
    cases ix <;> first | exact fun _ _ => rfl | exact absurd rfl (h3 _ _ _ _)
theorem snd_cmp (R : Snd c r) (G : Gd c S X E) (l : Expr) (ops : List CmpOp) (cs : List Expr) (pos : Pos) : PE X (.Compare l ops cs pos) (T (Wof X) E (rCmp r S l ops cs)) ∧ PT X (.Compare l ops cs pos) (TB (Wof X) E (asB (rCmp r S l ops cs))) := by
  unfold rCmp
  have hb : asB mBad = mBad := rfl
  split
  · split
    · rename_i h
      exact ⟨pe_cmpD G.room (R.E S X E G _) (R.E S X E G _) h, pt_cmpD G.room (R.E S X E G _) (R.E S X E G _) h⟩
    · exact ⟨pe_bad, pt_bad⟩
  · split
    · rename_i h
      exact ⟨pe_chainD G.room (R.E S X E G _) (R.E S X E G _) (R.E S X E G _) h, pt_chainD G.room (R.E S X E G _) (R.E S X E G _) (R.E S X E G _) h⟩
    · exact ⟨pe_bad, pt_bad⟩
  · exact ⟨pe_bad, pt_bad⟩
theorem snd_bool (R : Snd c r) (G : Gd c S X E) (op : BoolOp) (es : List Expr) (pos : Pos) : PE X (.BoolOp op es pos) (T (Wof X) E (rBool r S op es pos)) := by
  unfold rBool
  split
  · refine pe_andD (R.E S X E G _) ?_
    split
    · exact pe_one (R.E S X E G _)
    · exact R.E S X E G _
  · refine pe_orD (R.E S X E G _) ?_
    split
    · exact pe_one (R.E S X E G _)
    · exact R.E S X E G _
  · exact pe_bad
theorem snd_ifs (R : Snd c r) (G : Gd c S X E) (ifs : List Expr) : PTs X ifs (TB (Wof X) E (rIfs r S ifs)) := by
  unfold rIfs
  split
  · exact pts_nilD
  · exact pts_one (R.B S X E G _)
  · exact ⟨fun _ _ _ _ _ _ h => by obtain ⟨_, _, _, _, _, h⟩ := h; exact h.elim⟩
theorem inAll_ok {is js : List Nat} (h : inAll is js = true) : ∀ i ∈ is, i ∈ js := fun i hi => by
  unfold inAll at h
  rw [List.all_eq_true] at h
  have q := h i hi
  rw [List.any_eq_true] at q
  obtain ⟨j, hj, e⟩ := q
  have : i = j := by simpa using e
  rw [this]
  exact hj
theorem notSet_ok {e : Expr} (h : notSet e = true) (env : PySem.Env) : ∀ x, foldedSetIterable e env x = pure x := fun x => by
  cases e <;> first | rfl | cases h
theorem snd_compP {α : Type} {bad : α} {P : α → Prop} (hbad : P bad) (G : Gd c S X E) {tg iter : Expr} {scope : Scope} {k : Tg → List Nat → α}
    (h : ∀ t own, BlkOk X.N X.env.scope scope own → (∀ x, foldedSetIterable iter X.env x = pure x) → (∀ i ∈ t.slots, i ∈ own.map (·.2)) →
      (∀ s H C cl fp, PG (X.blk s H scope (compEnvC scope cl C X.env) fp) tg (gTg X.K t)) → (∀ s H C cl fp, Gd c (S.blk scope) (X.blk s H scope (compEnvC scope cl C X.env) fp) E0) → P (k t (own.map (·.2)))) :
    P (rComp c S bad tg iter scope k) := by
  unfold rComp
  split
  · rename_i t hb ht
    simp only [Bool.and_eq_true] at hb
    have ok : BlkOk X.N X.env.scope scope (ownOf c.N scope.names) := by
      rw [G.N, G.sc]
      exact blkOk_by hb.2
    have G' := fun s H C cl fp => G.blk ok.kind s H C cl fp
    split
    · rename_i hi
      exact h t _ ok (notSet_ok hb.1 _) (inAll_ok hi) (fun s H C cl fp => pg_tgD (S := S.blk scope) (G' s H C cl fp).calm (by rw [(G' s H C cl fp).N]; exact G.nd) (G' s H C cl fp).sc (G' s H C cl fp).fn (by rw [(G' s H C cl fp).N]; exact ht)) G'
    · exact hbad
  · exact hbad
theorem snd_comp {e : Expr} (G : Gd c S X E) {tg iter : Expr} {scope : Scope} {k : Tg → List Nat → EM}
    (h : ∀ t own, BlkOk X.N X.env.scope scope own → (∀ x, foldedSetIterable iter X.env x = pure x) → (∀ i ∈ t.slots, i ∈ own.map (·.2)) →
      (∀ s H C cl fp, PG (X.blk s H scope (compEnvC scope cl C X.env) fp) tg (gTg X.K t)) → (∀ s H C cl fp, Gd c (S.blk scope) (X.blk s H scope (compEnvC scope cl C X.env) fp) E0) → PE X e (T (Wof X) E (k t (own.map (·.2))))) :
    PE X e (T (Wof X) E (rComp c S mBad tg iter scope k)) := snd_compP (P := fun m => PE X e (T (Wof X) E m)) pe_bad G h
theorem snd_E (R : Snd c r) (G : Gd c S X E) (e : Expr) : PE X e (T (Wof X) E (stepE c r S e)) := by
  unfold stepE
  split
  · exact pe_constD
  · exact snd_name G _ _
  · exact pe_binD (R.E S X E G _) (R.E S X E G _)
  · exact pe_notD (R.E S X E G _)
  · exact pe_unD (R.E S X E G _)
  · exact (snd_cmp R G _ _ _ _).1
  · exact snd_bool R G _ _ _
  · exact pe_ifD (R.B S X E G _) (R.E S X E G _) (R.E S X E G _)
  · exact pe_tupD (R.A S X E G _)
  · exact pe_lstD (R.A S X E G _)
  · exact snd_sub R G _ _ _
  · exact snd_call R G _ _ _ _ _
  · exact snd_meth R G _ _ _ _ _
  · split
    · rename_i h
      exact pe_callFD G (R.E S X E G _) (R.A S X E G _) h
    · exact pe_bad
  · exact snd_comp G fun t own ok hs hsl hg G' => pe_lcD G.calm (by rw [G.N]; exact G.nd) (R.I S X E G _ _) ok hg (fun s H C cl fp => snd_ifs R (G' s H C cl fp) _) (fun s H C cl fp => R.E _ _ _ (G' s H C cl fp) _) hsl hs
  · exact snd_comp G fun t own ok hs hsl hg G' => pe_dcD G.calm (by rw [G.N]; exact G.nd) (R.I S X E G _ _) ok hg (fun s H C cl fp => snd_ifs R (G' s H C cl fp) _) (fun s H C cl fp => R.E _ _ _ (G' s H C cl fp) _) (fun s H C cl fp => R.E _ _ _ (G' s H C cl fp) _) hsl hs
  · exact pe_bad
theorem snd_B (R : Snd c r) (G : Gd c S X E) (e : Expr) : PT X e (TB (Wof X) E (stepB r S e)) := by
  unfold stepB
  split
  · exact pt_notD (R.B S X E G _)
  · exact pt_bad
  · exact (R.W S X E G _ _ _).pt
  · exact pt_ifD (R.B S X E G _) (R.B S X E G _) (R.B S X E G _)
  · exact (snd_cmp R G _ _ _ _).2
  · rename_i h1 h2 h3 h4 h5
    refine pt_truD (R.E S X E G _) ?_
    cases e <;> first | exact fun _ => rfl | exact absurd rfl (h2 _ _ _) | exact absurd rfl (h3 _ _ _) | exact absurd rfl (h4 _ _ _ _) | exact absurd rfl (h5 _ _ _ _)
theorem snd_W (R : Snd c r) (G : Gd c S X E) (op : BoolOp) (es : List Expr) (pos : Pos) : PW X (.BoolOp op es pos) (TB (Wof X) E (stepW r S op es)) := by
  unfold stepW
  split
  · cases op with
    | And => exact pw_and1D (R.B S X E G _)
    | Or => exact pw_or1D (R.B S X E G _)
  · exact pw_andD (R.B S X E G _) (R.W S X E G _ _ _)
  · exact pw_orD (R.B S X E G _) (R.W S X E G _ _ _)
  · exact pw_bad
theorem snd_A (R : Snd c r) (G : Gd c S X E) (es : List Expr) : PA X es (TAr (Wof X) E (stepA r S es)) := by
  unfold stepA
  split
  · exact pa_nilD
  · exact pa_starD (R.E S X E G _) (R.A S X E G _)
  · rename_i h
    refine pa_consD (R.E S X E G _) (R.A S X E G _) ?_
    rename_i e es
    cases e <;> first | rfl | exact absurd rfl (h _ _)
theorem isTuple_ok {e : Expr} (h : isTuple e = true) : ∃ es k p, e = .Tuple es k p := by
  cases e <;> first | exact ⟨_, _, _, rfl⟩ | cases h
theorem snd_I (R : Snd c r) (G : Gd c S X E) (tg e : Expr) : PI X tg e (TIt (Wof X) E (stepI c r S tg e)) := by
  unfold stepI
  split
  · rename_i x p es kws pos
    split
    · rename_i hg
      have hg := G.glob hg
      split
      · rename_i hx
        obtain ⟨rfl, hf⟩ := hx
        split
        · split
          · rename_i hp
            exact pi_rangeD hg (G.fr _ hf) (R.A S X E G _) ((plain_cons hp).2 _)
          · exact pi_bad
        · exact pi_bad
      · split
        · rename_i hx
          obtain ⟨rfl, hf, ht⟩ := hx
          obtain ⟨es', k, p', rfl⟩ := isTuple_ok ht
          split
          · split
            · rename_i hp
              exact pi_enumD hg (G.fr _ hf) (R.A S X E G _) ((plain_cons hp).2 _)
            · exact pi_bad
          · exact pi_bad
        · split
          · rename_i hx
            obtain ⟨rfl, hf, ht⟩ := hx
            obtain ⟨es', k, p', rfl⟩ := isTuple_ok ht
            split
            · split
              · rename_i hp
                exact pi_zipD hg (G.fr _ hf) (R.A S X E G _) ((plain_cons hp).2 _) (plain_any (plain_cons hp).1)
              · exact pi_bad
            · exact pi_bad
          · exact pi_valD (R.E S X E G _)
    · exact pi_valD (R.E S X E G _)
  · exact pi_valD (R.E S X E G _)
theorem snd_O (R : Snd c r) (G : Gd c S X E) (e : Option Expr) : PO X e (TOp (Wof X) E (stepO r S e)) := by
  unfold stepO
  split
  · exact po_noneD
  · exact po_someD (R.E S X E G _)
theorem snd_step (R : Snd c r) : Snd c (step c r) :=
  ⟨fun S X E G e => snd_E R G e, fun S X E G e => snd_B R G e, fun S X E G op es pos => snd_W R G op es pos, fun S X E G es => snd_A R G es, fun S X E G tg e => snd_I R G tg e, fun S X E G e => snd_O R G e⟩
theorem snd_ev (c : Cfg) : ∀ n, Snd c (ev c n)
  | 0 => Snd.bad
  | n + 1 => snd_step (snd_ev c n)
end
end Dp
set_option Elab.async false
set_option linter.all false
set_option maxRecDepth 100000
set_option maxHeartbeats 4000000
/-! DpX: several except clauses with names. -/
namespace Dp
open PySem PySem.Spec PyProof.Rows L2
abbrev offI (i : Nat) (D : Ends) : Ends := { nx := fun σ' H' => D.nx (σ'.set i none) H', rt := D.rt, bk := fun σ' H' => D.bk (σ'.set i none) H', ct := fun σ' H' => D.ct (σ'.set i none) H' }
/-- what the clauses wish of an exception of the body, one after the other, slot i the name's -/
def wManyAs (K : PySem.W.Frag) (Wout : WX) (D : Ends) : List (Value × Nat × (Addr → Value → Option Addr → TS)) → WX
  | [] => Wout
  | (c, i, ts) :: r => fun cls d σ H => ∃ b, PySem.W.exmOne K cls c = some b ∧ (b = true → ∀ a, H a = none → ts a cls d (offI i D) (σ.set i (some (.ref a))) H) ∧ (b = false → wManyAs K Wout D r cls d σ H)
inductive HdsAs (X : Cx) : List ExceptHandler → List (Value × Nat × (Addr → Value → Option Addr → TS)) → Prop
  | nil : HdsAs X [] []
  | cons {x n : Str} {c : Value} {i : Nat} {ts : Addr → Value → Option Addr → TS} {b₀ : Stmt} {suite : List Stmt} {np pos' : Pos} {hds : List ExceptHandler} {l : List (Value × Nat × (Addr → Value → Option Addr → TS))} (hc : Names X x c)
      (hi : X.N[i]? = some n) (hln : X.env.kindOf n = some .local)
      (hsu : ∀ (a : Addr) (oe : Obj) (cls : Value) (d : Option Addr) (pn : List (Addr × Obj)), Zc cls d oe → (∃ vs, oe.data = .fields vs) → PSs (X.suite a ((a, oe) :: pn)) (b₀ :: suite) (ts a cls d)) (r : HdsAs X hds l) :
      HdsAs X (.ExceptHandler (some (.Name x np)) (some n) (b₀ :: suite) pos' :: hds) ((c, i, ts) :: l)
section
variable {X : Cx} {body : List Stmt} {h₀ : ExceptHandler} {hds : List ExceptHandler} {l : List (Value × Nat × (Addr → Value → Option Addr → TS))} {pos : Pos} {tb : WX → TS} {Wout : WX}
theorem ps_try_manyAs (hs : X.stack = X.env :: X.outer) (hf : X.env.frame = some X.env.locals) (hN : X.N.Nodup) (tk : Takes X Wout)
    (hb : ∀ (W : WX) (pn : List (Addr × Obj)) (xe : Value → Shared → Prop), Takes (X.tr pn xe) W → PassesOwn (model X.prog X.w) X.A X.env xe → PSs (X.tr pn xe) body (tb W))
    (hh : HdsAs X (h₀ :: hds) l) : PS X (.Try body (h₀ :: hds) [] [] pos) (fun D σ H => tb (wManyAs X.K Wout D l) D σ H) := by
  refine ⟨fun pins s σ H D I h => ?_⟩
  have ok := I.ok
  have hfr : X.A.frames = some (X.env :: X.outer) := by rw [ok.frames, hs]
  refine wpAny_Try_except ?_
  refine wpAny_mono ((hb (wManyAs X.K Wout D l) (X.pn ++ pins) (fun e s₁ => wpAny (model X.prog X.w) X.A (noteFrame e X.env) (fun _ s₂ => wpAny (model X.prog X.w) X.A (setFlight e none) (fun _ s₃ =>
    wpAny (model X.prog X.w) X.A (handleBy e X.env (h₀ :: hds)) (SP X pins D) X.xe s₃) X.xe s₂) X.xe s₁) (fun u s' xx => ?_) PassesOwn.looking).run [] s σ H D (I.toTry _) h) (fun f s1 hsp => ?_) (fun e s1 he => he)
  · -- the catch
    obtain ⟨a, B, sI, pins', σ', H', cls, d, rfl, J', nb, up, sky, na, os, ag, w⟩ := xx
    have J : Inv X pins σ' H' sI := J'.ofTry ok
    have sky' : Sky B (X.env :: X.outer) a (Zc cls d) X.env.locals s'.heap := by rw [← hs]; exact sky
    show wpAny (model X.prog X.w) X.A (noteFrame (.ref a) X.env) _ _ _
    refine Sky.land Zc.steady hfr hf sky' fun h3 fl3 up3 => ?_
    have J3 : Inv X pins σ' H' { s' with heap := h3 } := J.landed nb fl3.1 (up.trans up3) os ag
    obtain ⟨oe3, vs3, he3, hz3, hd3⟩ := fl3.there
    have notFr : ∀ {h : Heap} {o : Obj} {vs : Array Value}, h.FunFrames B (X.env :: X.outer) → h.get? a = some o → o.data = .fields vs → a ∉ frs (X.env :: X.outer) := fun {h o vs} ff e dd hm => by
      obtain ⟨_, o', e', hnf⟩ := ff.mem hm
      rw [e] at e'; cases e'
      exact hnf _ dd
    have nfr := notFr fl3.2.2.1 he3 hd3
    have nL : a ≠ X.env.locals := fun z => nfr (List.mem_filterMap.mpr ⟨X.env, List.mem_cons_self, by rw [hf, z]⟩)
    have nF : a ∉ X.fs := fun hm => by
      obtain ⟨e, he, q⟩ := List.mem_filterMap.mp hm
      exact nfr (List.mem_filterMap.mpr ⟨e, List.mem_cons_of_mem _ he, q⟩)
    have S3 := J3.suite he3 hd3 na nL nF
    have go : ∀ {hds' : List ExceptHandler} {l' : List (Value × Nat × (Addr → Value → Option Addr → TS))}, HdsAs X hds' l' → wManyAs X.K Wout D l' cls d σ' H' →
        wpAny (model X.prog X.w) X.A (handleBy (.ref a) X.env hds') (SP X pins D) X.xe { s' with heap := h3 } := by
      intro hds' l' hk
      induction hk with
      | nil =>
        intro w
        refine wpAny_handleBy_nil ?_
        obtain ⟨k1, k2, k3, oe, vs, T, oT, ts', he, hz, hd, h1, hr⟩ := id fl3
        unfold PySem.passOn
        refine wpAny_bind (wpAny_field he hd h1 ?_)
        rw [if_neg (show ¬ ((Value.ref T == Value.none) = true) from by simp)]
        have fin : wpAny (model X.prog X.w) X.A (setFlight (.ref a) X.env.frame) (fun _ s4 => wpAny (model X.prog X.w) X.A (throw (.ref a) : Sem Flow) (SP X pins D) X.xe s4) X.xe { s' with heap := h3 } := by
          rw [hf]
          refine HandSPX.setFlight_upZ fl3 fun h4 hh4 up4 => wpAny_throw (tk _ _ ?_)
          exact ⟨a, B, sI, pins, σ', H', cls, d, rfl, J, nb, (up.trans up3).trans up4, .inr (.inr (by rw [hs]; exact hh4)), na, os, ag, w⟩
        first
          | exact wpAny_bind (wpAny_pure (wpAny_bind fin))
          | exact wpAny_bind fin
      | @cons x n c i ts b₀ suite np pos' hds2 l2 hc hi hln hsu r ih =>
        intro w
        have hloc : Loc X.env.scope n := .inl hln
        obtain ⟨b, hb1, hyes, hno⟩ := w
        refine wpAny_handleBy_cons (codeAny_handlers_test ?_) (by intro q; cases q)
        have LT : PySem.W.Looks (model X.prog X.w) h3 (typeOf (.ref a)) cls := fun A Q E s k q => wpAny_typeOf_ref (k _ _ he3) (by rw [hz3.1]; exact q)
        have LM := PySem.W.exm_one (M := model X.prog X.w) (J3.kIn) LT hb1
        have test : ∀ {Q : Value → Shared → Prop} {E : Value → Shared → Prop}, Q c { s' with heap := h3 } → wpAny (model X.prog X.w) (X.A.mark (some (.ref a))) (eval (.Name x np) X.env) Q E { s' with heap := h3 } := fun {Q E} q => by
          obtain ⟨hg, hdbg, hm | ⟨hm, hv, hnn⟩⟩ := hc
          · exact ld_glob (X := X.suite a ((a, oe3) :: (X.pn ++ pins))) S3 hg hm q hdbg
          · exact ld_blt (X := X.suite a ((a, oe3) :: (X.pn ++ pins))) S3 hg hm hv q hnn hdbg
        refine test (LM.here ?_)
        cases b with
        | true =>
          refine codeAny_handlers_suite_as ?_
          refine HandSPX.lands_againZ fl3 fun h4 fl4 up4 => ?_
          have J4 : Inv X pins σ' H' { s' with heap := h4 } := J.landed nb fl4.1 ((up.trans up3).trans up4) os ag
          obtain ⟨oe4, vs4, he4, hz4, hd4⟩ := fl4.there
          have S4 := J4.suite he4 hd4 na nL nF
          refine store_ok (X := X.suite a ((a, oe4) :: (X.pn ++ pins))) (v := .ref a) S4 hN hi hloc rfl (fun s5 S5 => ?_) (.inr hln)
          refine wpAny_mono ((hsu a oe4 cls d (X.pn ++ pins) hz4 ⟨_, hd4⟩).run [] s5 _ H' _ S5 (hyes rfl a na)) (fun f s6 hsp => ?_) (fun _ _ z => False.elim z)
          have end_ : ∀ {σ6 : L2.St} {H6 : Hp} {Q : Shared → Prop}, Inv (X.suite a ((a, oe4) :: (X.pn ++ pins))) [] σ6 H6 s6 → (∀ s7, Inv X pins (σ6.set i none) H6 s7 → Q s7) →
              wpAny (model X.prog X.w) X.A (do bindName X.env n .none; unbindBehindTheSuite X.env n pos') (fun _ s7 => Q s7) X.xe s6 := fun {σ6 H6 Q} S6 hq => gone_ok (S6.unsuite ok) hN hi hln hq
          cases f with
          | next =>
            obtain ⟨σ6, H6, S6, q6⟩ := hsp
            exact end_ S6 fun s7 J7 => ⟨_, _, J7, q6⟩
          | brk =>
            obtain ⟨σ6, H6, S6, q6⟩ := hsp
            exact end_ S6 fun s7 J7 => ⟨_, _, J7, q6⟩
          | cont =>
            obtain ⟨σ6, H6, S6, q6⟩ := hsp
            exact end_ S6 fun s7 J7 => ⟨_, _, J7, q6⟩
          | ret u =>
            obtain ⟨v6, σ6, H6, S6, r6, q6⟩ := hsp
            exact end_ S6 fun s7 J7 => ⟨_, _, _, J7, r6, q6⟩
        | false =>
          show wpAny _ X.A (handleBy (.ref a) X.env hds2) _ _ _
          exact ih (hno rfl)
    exact go hh w
  · cases f with
    | next =>
      obtain ⟨σ', H', J', q⟩ := hsp
      exact wpAny_execs_nil ⟨σ', H', J'.ofTry ok, q⟩
    | brk =>
      obtain ⟨σ', H', J', q⟩ := hsp
      exact ⟨σ', H', J'.ofTry ok, q⟩
    | cont =>
      obtain ⟨σ', H', J', q⟩ := hsp
      exact ⟨σ', H', J'.ofTry ok, q⟩
    | ret u =>
      obtain ⟨v, σ', H', J', r, q⟩ := hsp
      exact ⟨v, σ', H', J'.ofTry ok, r, q⟩
end
end Dp

/-! ### what a suite reads of its exception -/
namespace Dp
open PySem PySem.Spec PyProof.Rows L2
theorem suite_isX {X : Cx} {a C : Addr} {oe : Obj} {d : Option Addr} {pn : List (Addr × Obj)} (T : ExcC X.K C) (hz : Zc (.ref C) d oe) (hf : ∃ vs, oe.data = .fields vs) : CallR (X.suite a ((a, oe) :: pn)) (.builtin "isinstance")
    (fun xs H Q => ∃ (c : V) (cv : Value) (b : Bool), xs = [.ref a, c] ∧ (∀ u, RelV c u → u = cv) ∧ PySem.W.kitOne X.K (.ref C) cv = some b ∧ (d = none ∨ ∃ dd fs, d = some dd ∧ H dd = some (.xd fs)) ∧ Q (.bl b) H) := by
  intro pins s σ H xs us Q I r h
  obtain ⟨c, cv, b, rfl, hcv, e, hdd, q⟩ := h
  cases r with
  | cons rx rr =>
    cases rr with
    | cons rt rr =>
      cases rr
      cases rx
      have ec := hcv _ rt
      subst ec
      obtain ⟨hget, _⟩ := I.pin (a, oe) (List.mem_append.mpr (.inl List.mem_cons_self))
      obtain ⟨vs, hv⟩ := hf
      have hcl : (PySem.W.clsIn X.K C).isSome = true := by
        obtain ⟨cd, hc, _⟩ := PySem.W.any_some T.hd
        rw [hc]
        rfl
      have J : ∃ od, PySem.W.InstAt s.heap a oe C od := by
        rcases hdd with rfl | ⟨dd, fs, rfl, hx⟩
        · refine ⟨none, ?_⟩
          obtain ⟨oc, od, oda, osl⟩ := oe
          obtain ⟨h1, h2⟩ := hz
          dsimp only at h1 h2 hv
          subst h1 h2 hv
          exact ⟨hget, rfl, rfl, trivial⟩
        · have hx' : ObjOk X.prog X.w H s.heap dd (.xd fs) := I.hok dd _ hx
          obtain ⟨mA, hns, hr⟩ := hx'
          obtain ⟨od, ho, hl⟩ := lookIn_ns hns
          exact ⟨some od, hget, hz.1, by unfold PySem.W.notCls; rw [hv] <;> rfl, by rw [hz.2]; exact ho⟩
      obtain ⟨od, J⟩ := J
      exact PySem.W.kia_one (PySem.W.kitx_exc hcl T.hg T.hk T.hs T.ha T.hn T.ht T.hm) I.kIn J e (fun z => nomatch z) fun tk => ⟨.bl b, H, I.kept (t' := tk) fun _ _ z => z, rfl, q⟩
end Dp
set_option Elab.async false
set_option linter.all false
set_option maxRecDepth 100000
set_option maxHeartbeats 4000000
/-! DpT: try .. except C as n: a list of constants, n.f, isinstance(n, T). -/
namespace Dp
open PySem PySem.Spec PyProof.Rows L2
section
variable (c : Cfg) (S : Sc)
def sx (n cn : Str) (fs : List (Str × D)) (e : Expr) : Option D := match e with
  | .Constant k _ _ => constD k
  | .Attribute (.Name x _) f _ => (match decide (x = n) && c.xf cn f with | true => fs.lookup f | false => none)
  | .Call (.Name g _) [.Name x _, .Name y _] [] _ => (match decide (g = "isinstance") && decide (x = n) && decide (c.bi g = some .isinstance) && decide (S.sc.names.lookup g = some .globalImplicit) && decide (S.sc.names.lookup y = some .globalImplicit) with
    | true => (c.xi cn y).map D.bl
    | false => none)
  | _ => none
def sxs (n cn : Str) (fs : List (Str × D)) : List Expr → Option (List D)
  | [] => some []
  | e :: es => match sx c S n cn fs e, sxs n cn fs es with
    | some d, some ds => some (d :: ds)
    | _, _ => none
def suR (n : Str) (i : Nat) (cn : Str) (fs : List (Str × D)) (suite : List Stmt) (st : Store) : Out Fl := match suite with
  | [.Return (some (.List es _)) _] => (match sxs c S n cn fs es with
    | some ds => if ds.length ≤ big then .ok (.rt (.ref st.length)) (st.push (.lst ds)) else .bad
    | none => .bad)
  | [.Assign [.Name y _] (.List es _) _] => (match sxs c S n cn fs es, slotS c.N S y with
    | some ds, some j => if ds.length ≤ big ∧ j ≠ i then .ok (.nx ((List.replicate c.N.length none).set j (some (.ref st.length)))) (st.push (.lst ds)) else .bad
    | _, _ => .bad)
  | _ => .bad
inductive SuSh : List Stmt → Type where
  | ret (es : List Expr) (p p2 : Pos) : SuSh [.Return (some (.List es p)) p2]
  | asg (y : Str) (py : Pos) (es : List Expr) (p p2 : Pos) : SuSh [.Assign [.Name y py] (.List es p) p2]
def suSh : (su : List Stmt) → Option (SuSh su)
  | [.Return (some (.List es p)) p2] => some (.ret es p p2)
  | [.Assign [.Name y py] (.List es p) p2] => some (.asg y py es p p2)
  | _ => none
def hdB : ExceptHandler → Bool
  | .ExceptHandler (some (.Name x _)) (some n) su _ => (suSh su).isSome && (slot c.N n).isSome && decide (S.sc.names.lookup n = some .local) && decide (S.sc.names.lookup x = some .globalImplicit) && c.xn x
  | _ => false
def hdR (cn : Str) (fs : List (Str × D)) : List ExceptHandler → Store → Out Fl
  | [], st => .exn cn fs st
  | .ExceptHandler (some (.Name x _)) (some n) su _ :: r, st => (match slot c.N n, c.xm cn x with
    | some i, some true => suR c S n i cn fs su st
    | some _, some false => hdR cn fs r st
    | _, _ => .bad)
  | _ :: _, _ => .bad
def sTry (body : StM) (hds : List ExceptHandler) : StM := fun env st => match body env st with
  | .exn cn fs s1 => hdR c S cn fs hds s1
  | .ok f s1 => .ok f s1
  | .bad => .bad
end
/-- what the classes of exceptions keep -/
structure GdX (c : Cfg) (S : Sc) (X : Cx) : Prop where
  xn : ∀ x, c.xn x = true → ∃ cv, (X.mg x = some cv ∨ (X.mg x = none ∧ bootBuiltins x = some cv ∧ x ≠ "__name__")) ∧ (x == ("__debug__" : Str)) = false
  xm : ∀ cn x b, c.xm cn x = some b → ∀ C cv, X.mg cn = some (.ref C) → (X.mg x = some cv ∨ (X.mg x = none ∧ bootBuiltins x = some cv ∧ x ≠ "__name__")) → PySem.W.exmOne X.K (.ref C) cv = some b
  xf : ∀ cn f, c.xf cn f = true → ∀ C, X.mg cn = some (.ref C) → XfC X.K C ∧ PySem.W.findIn X.K (.ref C) f = some none
  xi : ∀ cn y b, c.xi cn y = some b → ∀ C, X.mg cn = some (.ref C) → ExcC X.K C ∧ ∃ v u, RelV v u ∧ (∀ u', RelV v u' → u' = u) ∧ (X.mg y = some u ∨ (X.mg y = none ∧ bootBuiltins y = some u ∧ y ≠ "__name__")) ∧ (y == ("__debug__" : Str)) = false ∧ PySem.W.kitOne X.K (.ref C) u = some b
section
variable {c : Cfg} {S : Sc} {X : Cx} {a : Addr} {oe : Obj} {cls : Value} {d : Option Addr} {pn : List (Addr × Obj)} {n : Str} {i : Nat}
abbrev tSx (c : Cfg) (S : Sc) (X : Cx) (a : Addr) (cls : Value) (d : Option Addr) (n : Str) (i : Nat) (e : Expr) : TE := fun σ H Q => ∃ ρ cn fs dv, σ[i]? = some (some (V.ref a)) ∧ XRep (Wof X) ρ H cn fs cls d ∧ sx c S n cn fs e = some dv ∧ ∀ v, Rep (Wof X) ρ H dv v → Q v H
abbrev tSxs (c : Cfg) (S : Sc) (X : Cx) (a : Addr) (cls : Value) (d : Option Addr) (n : Str) (i : Nat) (es : List Expr) : TA := fun σ H Q => ∃ ρ cn fs ds, σ[i]? = some (some (V.ref a)) ∧ XRep (Wof X) ρ H cn fs cls d ∧ sxs c S n cn fs es = some ds ∧ ∀ vs, Reps (Wof X) ρ H ds vs → Q vs H
theorem pe_sx (GX : GdX c S X) (h1 : X.env.scope = S.sc) (hbi : ∀ x f, c.bi x = some f → X.mg x = none ∧ bootBuiltins x = some f.val ∧ x ≠ "__name__" ∧ (x == ("__debug__" : Str)) = false)
    (hi : X.N[i]? = some n) (hln : X.env.kindOf n = some .local) (hdb : (n == ("__debug__" : Str)) = false ∧ (n == ("__classdict__" : Str)) = false) (hz : Zc cls d oe) (hf : ∃ vs, oe.data = .fields vs) (e : Expr) :
    PE (X.suite a ((a, oe) :: pn)) e (tSx c S X a cls d n i e) := by
  have var : ∀ p, PE (X.suite a ((a, oe) :: pn)) (.Name n p) (tVar i) := fun p => pe_var hi (.inl hln) hdb.1 hdb.2
  refine ⟨fun pins s σ H Q I h => ?_⟩
  obtain ⟨ρ, cn, fs, dv, ha, ⟨C, hC, rfl, hfs⟩, hs, q⟩ := h
  unfold sx at hs
  split at hs
  · rename_i k _ _
    unfold constD at hs
    split at hs
    · cases hs; exact pe_non.run pins s σ H Q I (q _ (rep_non.mpr rfl))
    · cases hs; exact pe_bl.run pins s σ H Q I (q _ (rep_bl.mpr rfl))
    · cases hs; exact pe_int.run pins s σ H Q I (q _ (rep_int.mpr rfl))
    · cases hs; exact pe_str.run pins s σ H Q I (q _ (rep_str.mpr rfl))
    · cases hs
  · rename_i x p f p2
    split at hs
    · rename_i hx
      simp only [Bool.and_eq_true, decide_eq_true_eq] at hx
      obtain ⟨rfl, hxf⟩ := hx
      obtain ⟨T, hno⟩ := GX.xf cn f hxf C hC
      refine (pe_xf T hno hz hf (var p)).run pins s σ H Q I ⟨.ref a, ha, rfl, rfl, ?_⟩
      match fs, hfs, hs with
      | [], hfs, hs => cases hs
      | [(f0, d0)], hfs, hs =>
        obtain ⟨b, v, e1, e2, e3⟩ := hfs
        refine ⟨b, [(f0, v)], v, e1, e2, ?_, q v ?_⟩
        · cases hk : f == f0 with
          | true => simp only [List.lookup_cons, hk]
          | false => simp only [List.lookup_cons, hk] at hs; cases hs
        · cases hk : f == f0 with
          | true => simp only [List.lookup_cons, hk] at hs; cases hs; exact e3
          | false => simp only [List.lookup_cons, hk] at hs; cases hs
    · cases hs
  · rename_i g pg x p1 y p2 pos
    split at hs
    · rename_i hx
      simp only [Bool.and_eq_true, decide_eq_true_eq] at hx
      obtain ⟨⟨⟨⟨rfl, rfl⟩, hb⟩, hg⟩, hy⟩ := hx
      cases hxi : c.xi cn y with
      | none => rw [hxi] at hs; cases hs
      | some b =>
        rw [hxi] at hs
        cases hs
        obtain ⟨T, v, u, r1, r2, hm, hyd, hk⟩ := GX.xi cn y b hxi C hC
        obtain ⟨b1, b2, b3, b4⟩ := hbi _ _ hb
        have gl : ∀ z, S.sc.names.lookup z = some .globalImplicit → Gl (X.suite a ((a, oe) :: pn)) z := fun z hz => by
          show X.env.scope.names.lookup z = _
          rw [h1]
          exact hz
        have py : PE (X.suite a ((a, oe) :: pn)) (.Name y p2) (tC v) := by
          rcases hm with hm | ⟨hm, hv, hn⟩
          · exact pe_glob (gl y hy) hm r1 hyd
          · exact pe_bltn (gl y hy) hm hv r1 hn hyd
        refine (pe_callB (suite_isX T hz hf) (gl _ hg) b1 b2 (pa_cons (var p1) (pa_cons py pa_nil)) b3 b4).run pins s σ H Q I ?_
        refine ⟨.ref a, ha, ?_⟩
        refine ⟨v, u, b, rfl, r2, hk, ?_, q _ (rep_bl.mpr rfl)⟩
        match fs, hfs with
        | [], hfs => exact .inl hfs
        | [(f0, d0)], hfs =>
          obtain ⟨b', v', e1, e2, e3⟩ := hfs
          exact .inr ⟨b', _, e1, e2⟩
    · cases hs
  · cases hs
theorem pa_sx (GX : GdX c S X) (h1 : X.env.scope = S.sc) (hbi : ∀ x f, c.bi x = some f → X.mg x = none ∧ bootBuiltins x = some f.val ∧ x ≠ "__name__" ∧ (x == ("__debug__" : Str)) = false)
    (hi : X.N[i]? = some n) (hln : X.env.kindOf n = some .local) (hdb : (n == ("__debug__" : Str)) = false ∧ (n == ("__classdict__" : Str)) = false) (hz : Zc cls d oe) (hf : ∃ vs, oe.data = .fields vs) :
    ∀ es : List Expr, PA (X.suite a ((a, oe) :: pn)) es (tSxs c S X a cls d n i es)
  | [] => paT (fun σ H Q ⟨ρ, cn, fs, ds, ha, hx, hs, q⟩ => by cases hs; exact q [] Reps.nil) pa_nil
  | e :: es => by
    have bad : (∀ cn fs, sx c S n cn fs e = none) → PA (X.suite a ((a, oe) :: pn)) (e :: es) (tSxs c S X a cls d n i (e :: es)) := fun hb => ⟨fun pos pins s σ H Q I ⟨ρ, cn, fs, ds, ha, hx, hs, q⟩ => by
      unfold sxs at hs
      rw [hb] at hs
      cases hs⟩
    have good : starEach (e :: es) X.env = (false, eval e X.env) :: starEach es X.env → PA (X.suite a ((a, oe) :: pn)) (e :: es) (tSxs c S X a cls d n i (e :: es)) := fun hst =>
      paT (fun σ H Q ⟨ρ, cn, fs, ds, ha, hx, hs, q⟩ => by
        unfold sxs at hs
        split at hs
        · rename_i dv ds' e1 e2
          cases hs
          exact ⟨ρ, cn, fs, dv, ha, hx, e1, fun v hv => ⟨ρ, cn, fs, ds', ha, hx, e2, fun vs hvs => q (v :: vs) (Reps.cons hv hvs)⟩⟩
        · cases hs) (pa_cons (pe_sx GX h1 hbi hi hln hdb hz hf e) (pa_sx GX h1 hbi hi hln hdb hz hf es) hst)
    cases e <;> first | exact bad (fun _ _ => rfl) | exact good rfl
/-- the suite's reading -/
abbrev tSu (c : Cfg) (S : Sc) (X : Cx) (n : Str) (i : Nat) (su : List Stmt) (a : Addr) (cls : Value) (d : Option Addr) : TS := fun D σ H => σ.length = X.N.length ∧ ∃ ρ st cn fs, σ[i]? = some (some (V.ref a)) ∧ Rel (Wof X) ρ st H ∧ XRep (Wof X) ρ H cn fs cls d ∧ PostS (Wof X) E0 ρ H (suR c S n i cn fs su st) D
theorem set_none {W : Wd} {ρ : List Addr} {H : Hp} {σ : L2.St} {j : Nat} {dv : D} {v : V} {N : Nat} (hl : σ.length = N) (r : Rep W ρ H dv v) : RelE W ρ H ((List.replicate N none).set j (some dv)) (σ.set j (some v)) :=
  RelE.set ⟨by rw [List.length_replicate]; exact hl.symm, fun k d' e => by
    rw [List.getElem?_replicate] at e
    split at e <;> cases e⟩ r
theorem pss_sx (GX : GdX c S X) (h1 : X.env.scope = S.sc) (hN : X.N = c.N) (nd : X.N.Nodup) (hfn : X.fn = S.fn) (hbi : ∀ x f, c.bi x = some f → X.mg x = none ∧ bootBuiltins x = some f.val ∧ x ≠ "__name__" ∧ (x == ("__debug__" : Str)) = false)
    (hi : X.N[i]? = some n) (hln : X.env.kindOf n = some .local) (hdb : (n == ("__debug__" : Str)) = false ∧ (n == ("__classdict__" : Str)) = false) (hz : Zc cls d oe) (hf : ∃ vs, oe.data = .fields vs) {su : List Stmt} (sh : SuSh su) :
    PSs (X.suite a ((a, oe) :: pn)) su (tSu c S X n i su a cls d) := by
  have lst : ∀ es p, PE (X.suite a ((a, oe) :: pn)) (.List es p) _ := fun es p => pe_lst (pa_sx (pn := pn) GX h1 hbi hi hln hdb hz hf es)
  have bad : (∀ cn fs st, suR c S n i cn fs su st = .bad) → PSs (X.suite a ((a, oe) :: pn)) su (tSu c S X n i su a cls d) := fun hb => ⟨fun pins s σ H D I h => by
    obtain ⟨_, ρ, st, cn, fs, _, _, _, hP⟩ := h
    rw [hb] at hP
    exact hP.elim⟩
  cases sh with
  | ret es p p2 =>
    refine pssT (fun D σ H h => ?_) (pss_one (ps_ret (lst es p)))
    obtain ⟨_, ρ, st, cn, fs, ha, hR, hx, hP⟩ := h
    dsimp only [suR] at hP
    split at hP
    · rename_i ds hs
      split at hP
      · rename_i hz
        refine ⟨ρ, cn, fs, ds, ha, hx, hs, fun vs hvs => ⟨by rw [hvs.length]; exact sz_big hz, fun p hp => ?_⟩⟩
        exact post_lst (E := E0) (Q := D.rt) hR hP hvs p hp
      · exact hP.elim
    · exact hP.elim
  | asg y py es p p2 =>
    cases hj : slotS c.N S y with
    | none =>
      refine bad fun cn fs st => ?_
      dsimp only [suR]
      rw [hj]
      cases sxs c S n cn fs es <;> rfl
    | some j =>
      obtain ⟨b1, b2, b3⟩ := slotS_ok hj
      refine pssT (fun D σ H h => ?_) (pss_one (ps_asg (lst es p) (pg_name (X := X.suite a ((a, oe) :: pn)) (i := j) nd (by rw [← hN] at b1; exact b1) (by show Loc X.env.scope y; rw [h1]; exact b2) (by show X.fn y = true ∨ X.env.scope.names.lookup y = some .local; rw [h1, hfn]; exact b3)) rfl rfl))
      obtain ⟨hl, ρ, st, cn, fs, ha, hR, hx, hP⟩ := h
      dsimp only [suR] at hP
      rw [hj] at hP
      split at hP
      · rename_i ds j' hs ej
        cases ej
        split at hP
        · rename_i hz
          refine ⟨ρ, cn, fs, ds, ha, hx, hs, fun vs hvs => ⟨by rw [hvs.length]; exact sz_big hz.1, fun q hq => ?_⟩⟩
          have ex : Ext (Wof X) ρ H (ρ ++ [q]) (upd H q (.lst vs)) := Ext.snoc hq
          refine hP _ _ _ ex (set_none (by rw [← hN]; exact hl) (rep_ref.mpr ⟨q, rfl, ?_⟩)) (hR.snoc (c := .lst ds) hq ⟨vs, upd_same, Reps.mono ex _ _ hvs⟩)
          rw [← hR.len, List.getElem?_append_right (Nat.le_refl _)]
          simp
        · exact hP.elim
      · exact hP.elim
theorem PostS.okE {W : Wd} {E E' : XK} {ρ : List Addr} {H : Hp} {f : Fl} {s : Store} {D : Ends} (h : PostS W E ρ H (.ok f s) D) : PostS W E' ρ H (.ok f s) D := by cases f <;> exact h
/-- the clauses' reading -/
theorem hds_ok (GX : GdX c S X) (h1 : X.env.scope = S.sc) (hN : X.N = c.N) (nd : X.N.Nodup) (hfn : X.fn = S.fn) (hbi : ∀ x f, c.bi x = some f → X.mg x = none ∧ bootBuiltins x = some f.val ∧ x ≠ "__name__" ∧ (x == ("__debug__" : Str)) = false)
    (hdb : ∀ x ∈ c.N, (x == ("__debug__" : Str)) = false ∧ (x == ("__classdict__" : Str)) = false) {E : XK} : ∀ hds : List ExceptHandler, hds.all (hdB c S) = true → ∃ l, HdsAs X hds l ∧
      ∀ ρ H st cn fs cls dd D, Rel (Wof X) ρ st H → XRep (Wof X) ρ H cn fs cls dd → PostS (Wof X) E ρ H (hdR c S cn fs hds st) D → ∀ σ', σ'.length = X.N.length → wManyAs X.K (fun cls d _ H => E cls d H) D l cls dd σ' H
  | [], _ => ⟨[], .nil, fun ρ H st cn fs cls dd D hR hx hP σ' hl => hP ρ H cls dd Ext.refl hR hx⟩
  | hd :: r, hb => by
    rw [List.all_cons, Bool.and_eq_true] at hb
    obtain ⟨hb1, hb2⟩ := hb
    obtain ⟨l, hl1, hl2⟩ := hds_ok GX h1 hN nd hfn hbi hdb r hb2
    unfold hdB at hb1
    split at hb1
    · rename_i x p n su p2
      simp only [Bool.and_eq_true, decide_eq_true_eq] at hb1
      obtain ⟨⟨⟨⟨hsh, hsl⟩, hln⟩, hgx⟩, hxn⟩ := hb1
      obtain ⟨i, hi⟩ := Option.isSome_iff_exists.mp hsl
      obtain ⟨sh, hsh⟩ := Option.isSome_iff_exists.mp hsh
      obtain ⟨cv, hcv, hxd⟩ := GX.xn x hxn
      have hi1 := slot_ok hi
      have hiX : X.N[i]? = some n := by rw [hN]; exact hi1
      have hlnX : X.env.kindOf n = some .local := by show X.env.scope.names.lookup n = _; rw [h1]; exact hln
      have hdn := hdb n (List.mem_of_getElem? hi1)
      have hgl : Gl X x := by show X.env.scope.names.lookup x = _; rw [h1]; exact hgx
      have nm : Names X x cv := ⟨hgl, hxd, hcv⟩
      obtain ⟨b₀, sr, rfl⟩ : ∃ b₀ sr, su = b₀ :: sr := by cases sh <;> exact ⟨_, _, rfl⟩
      refine ⟨(cv, i, tSu c S X n i (b₀ :: sr)) :: l, .cons nm hiX hlnX (fun a oe cls d pn hz hf => pss_sx GX h1 hN nd hfn hbi hiX hlnX hdn hz hf sh) hl1, fun ρ H st cn fs cls dd D hR hx hP σ' hlen => ?_⟩
      unfold hdR at hP
      rw [hi] at hP
      have hx0 := hx
      obtain ⟨C, hC, rfl, _⟩ := hx0
      split at hP
      · rename_i i' ei em
        cases ei
        refine ⟨true, GX.xm cn x true em C cv hC hcv, fun _ a ha => ?_, nofun⟩
        refine ⟨by rw [List.length_set]; exact hlen, ρ, st, cn, fs, List.getElem?_set_self (by rw [hlen]; exact (List.getElem?_eq_some_iff.mp hiX).1), hR, hx, ?_⟩
        -- the ends
        cases sh with
        | ret es p p2 =>
          dsimp only [suR] at hP ⊢
          split at hP
          · split at hP
            · rename_i hz
              rw [if_pos hz]
              exact hP
            · exact hP.elim
          · exact hP.elim
        | asg y py es p p2 =>
          dsimp only [suR] at hP ⊢
          split at hP
          · rename_i ds j hs hj
            split at hP
            · rename_i hz
              rw [if_pos hz]
              intro ρ1 σ1 H1 e1 hE1 hR1
              refine hP ρ1 (σ1.set i none) H1 e1 ⟨by have z := hE1.1; simp only [List.length_set] at z ⊢; exact z, fun k d' ek => ?_⟩ hR1
              obtain ⟨v, h3, h4⟩ := hE1.2 k d' ek
              refine ⟨v, ?_, h4⟩
              have hki : i ≠ k := fun z => by
                subst z
                rw [List.getElem?_set_ne hz.2, List.getElem?_replicate] at ek
                split at ek <;> cases ek
              rw [List.getElem?_set_ne hki]
              exact h3
            · exact hP.elim
          · exact hP.elim
      · rename_i i' ei em
        cases ei
        exact ⟨false, GX.xm cn x false em C cv hC hcv, nofun, fun _ => hl2 ρ H st cn fs _ dd D hR hx hP σ' hlen⟩
      · exact hP.elim
    · cases hb1
/-- try: body, except .. as ..: .. -/
theorem ps_tryD {E : XK} {body : List Stmt} {mb : StM} {h₀ : ExceptHandler} {hds : List ExceptHandler} {pos : Pos} (GX : GdX c S X) (h1 : X.env.scope = S.sc) (hN : X.N = c.N) (nd : X.N.Nodup) (hfn : X.fn = S.fn) (hbi : ∀ x f, c.bi x = some f → X.mg x = none ∧ bootBuiltins x = some f.val ∧ x ≠ "__name__" ∧ (x == ("__debug__" : Str)) = false)
    (hdb : ∀ x ∈ c.N, (x == ("__debug__" : Str)) = false ∧ (x == ("__classdict__" : Str)) = false) (hs : X.stack = X.env :: X.outer) (hf : X.env.frame = some X.env.locals) (tk : Takes X (fun cls d _ H => E cls d H))
    (hb : ∀ (E' : XK) (pn : List (Addr × Obj)) (xe : Value → Shared → Prop), Takes (X.tr pn xe) (fun cls d _ H => E' cls d H) → PassesOwn (model X.prog X.w) X.A X.env xe → PSs (X.tr pn xe) body (TSt (Wof X) E' mb)) (hh : (h₀ :: hds).all (hdB c S) = true) :
    PS X (.Try body (h₀ :: hds) [] [] pos) (TSt (Wof X) E (sTry c S mb (h₀ :: hds))) := by
  obtain ⟨l, hl1, hl2⟩ := hds_ok (E := E) GX h1 hN nd hfn hbi hdb (h₀ :: hds) hh
  refine psT (fun D σ H h => ?_) (ps_try_manyAs (tb := fun W => TSt (Wof X) (fun cls d H => ∀ σ', σ'.length = X.N.length → W cls d σ' H) mb) hs hf nd tk (fun W pn xe tk' po => hb _ pn xe (fun u s' x => ?_) po) hl1)
  · obtain ⟨ρ, env, st, hE, hR, hP⟩ := h
    refine ⟨ρ, env, st, hE, hR, ?_⟩
    unfold sTry at hP
    cases ho : mb env st with
    | bad => rw [ho] at hP; exact hP
    | ok f s1 => rw [ho] at hP; exact PostS.okE hP
    | exn cn fs s1 =>
      rw [ho] at hP
      exact fun ρ1 H1 cls dd e1 r1 x1 σ' hlen => hl2 ρ1 H1 s1 cn fs cls dd D r1 x1 (PostS.ext hP e1) σ' hlen
  · obtain ⟨a, B, sI, pins, σ, H, cls, d, e, I, nb, up, sky, na, os, ag, w⟩ := x
    exact tk' u s' ⟨a, B, sI, pins, σ, H, cls, d, e, I, nb, up, sky, na, os, ag, w σ I.len⟩
end
end Dp
set_option Elab.async false
set_option linter.all false
set_option maxRecDepth 100000
set_option maxHeartbeats 4000000
/-! Dp13: statements read, all at once. -/
namespace Dp
open PySem PySem.Spec PyProof.Rows L2

/-! name = {dict comprehension} -/
section
variable {X : Cx}
theorem ps_setDc {i : Nat} {y : Str} {py : Pos} {kx vx tg iter : Expr} {ifs : List Expr} {scope : Scope} {own : List (Str × Nat)} {pos spos : Pos} {wi : TI} {g : TG} {tt : TT} {tk te : TE} (hc : X.calm = true) (hN : X.N.Nodup) (hy : X.N[i]? = some y) (hyl : X.env.scope.names.lookup y = some .local)
    (hsw : swapsWith (.DictComp kx vx [⟨tg, iter, ifs, 0⟩] scope pos) (some (.Name y py)) spos.line X.env = pure true) (hi : PI X tg iter wi) (ok : BlkOk X.N X.env.scope scope own)
    (hg : ∀ (s : Shared) (H : Hp) (C : Addr) (cl : List (Str × Addr)) (fp : List Addr), PG (X.blk s H scope (compEnvC scope cl C X.env) fp) tg g) (ht : ∀ (s : Shared) (H : Hp) (C : Addr) (cl : List (Str × Addr)) (fp : List Addr), PTs (X.blk s H scope (compEnvC scope cl C X.env) fp) ifs tt)
    (hk : ∀ (s : Shared) (H : Hp) (C : Addr) (cl : List (Str × Addr)) (fp : List Addr), PE (X.blk s H scope (compEnvC scope cl C X.env) fp) kx tk)
    (he : ∀ (s : Shared) (H : Hp) (C : Addr) (cl : List (Str × Addr)) (fp : List Addr), PE (X.blk s H scope (compEnvC scope cl C X.env) fp) vx te) (hs : ∀ x, foldedSetIterable iter X.env x = pure x) :
    PS X (.Assign [.Name y py] (.DictComp kx vx [⟨tg, iter, ifs, 0⟩] scope pos) spos) (tAsg (tDc wi g tt tk te (own.map (·.2))) (gName i)) := by
  refine ⟨fun pins s σ H D I h => ?_⟩
  rw [exec_Assign_Name_used _ _ _ _ hsw]
  refine wpAny_bind (wpAny_standAt (wpAny_bind ?_))
  show wpAny _ X.A (do let _ ← comprehension (.DictComp kx vx [⟨tg, iter, ifs, 0⟩] scope pos) scope X.env (firstIterPos [⟨tg, iter, ifs, 0⟩] pos) newDict false (eval iter X.env) (some (assign (.Name y py) X.env))) _ _ s
  have h : tDc wi g tt tk te (own.map (·.2)) σ H (fun x H1 => gName i x σ H1 D.nx) := h
  refine wpAny_bind (thn (dc_core (Qf := fun _ s' => SP X pins D .next s') hc hN I hi ok hg ht hk he hs h fun L C s' m H' I' q hn f => ?_) fun _ s' hq => wpAny_pure (wpAny_pure hq))
  show wpAny _ _ (assign (.Name y py) X.env (.ref L)) _ _ _
  refine wpAny_assign_Name (store_ok2 (v := V.ref L) I' hN hy (.inl hyl) rfl (fun s2 I2 ⟨a, sb, ha⟩ => ?_) (.inr hyl))
  obtain ⟨f0, f1, f2, f3, f4, f5⟩ := f
  have haC : C ≠ a := by
    rcases ha with z | z
    · rw [z]; exact f1
    · exact fun e => f4 y a z e.symm
  refine ⟨m, hn.sameBut sb haC, fun h3 sb3 => ?_⟩
  exact ⟨_, H', I2.turned (t' := s2.toks) (fun b o hb e => (sb3.2 b hb).trans e) f0 f1 f3 f4 f5, q⟩
theorem sw_trueD {k v : Expr} {gs : List Comprehension} {scope : Scope} {pos py : Pos} {y : Str} {l : Nat} {env : PySem.Env} (hk : env.scope.kind = .function) (hy : env.scope.names.lookup y = some .local) (hl : (py.line == pos.line) = true)
    (ha : (scope.names.any fun (n, k) => n == y && (k == .local || k == .cell)) = false) : swapsWith (.DictComp k v gs scope pos) (some (.Name y py)) l env = pure true := by
  have ky : env.kindOf y = some .local := hy
  have hb : env.blockKind = .function := by unfold Env.blockKind; rw [hk]; rfl
  unfold swapsWith
  simp only [hb, ky, ha, Expr.pos, hl]
  rfl
end

/-! which stores are swapped -/
def swNames (S : Sc) (ts : List Expr) : List Str := ts.filterMap fun
  | .Name id pos => if (S.sc.names.lookup id == some .local && pos.line == (ts.head?.map (·.pos.line)).getD 0) = true then some id else none
  | _ => none
def swG (S : Sc) (ts vs : List Expr) : Option (Option (List Str)) :=
  if (!(ts.length == 2 || ts.length == 3) || vs.length != ts.length) = true then some none else
  if (vs.any fun | .Starred .. => true | _ => false) = true then some none else
  if ((swNames S ts).length != ts.length || (swNames S ts).eraseDups.length != (swNames S ts).length) = true then some none else
  if vs.all (foldedForSure 8) = true then some none else
  if vs.all (constantsAlone 8) = true then none else some (some (swNames S ts))
theorem swG_ok {S : Sc} {ts vs : List Expr} {k k2 : Nat} {p p2 : Pos} {env : PySem.Env} {o : Option (List Str)} (h1 : env.scope = S.sc) (h2 : S.sc.kind = .function) (h : swG S ts vs = some o) : swappedStores [.Tuple ts k p] (.Tuple vs k2 p2) env = pure o := by
  have e : swappedStores [.Tuple ts k p] (.Tuple vs k2 p2) env =
    (if (!(ts.length == 2 || ts.length == 3) || vs.length != ts.length || env.blockKind != .function) = true then pure none else
     if (vs.any fun | .Starred .. => true | _ => false) = true then pure none else
     let names := ts.filterMap fun
      | .Name id pos => if (env.kindOf id == some .local && pos.line == (ts.head?.map (·.pos.line)).getD 0) = true then some id else none
      | _ => none
     if (names.length != ts.length || names.eraseDups.length != names.length) = true then pure none else
     if vs.all (foldedForSure 8) = true then pure none else
     if vs.all (constantsAlone 8) = true then unsupported "assign.tuple-of-constant-expressions:order-of-the-stores" else
     pure (some names)) := by rfl
  have hb : env.blockKind = .function := by unfold Env.blockKind; rw [h1, h2]; rfl
  rw [e, hb]
  have hn : (ts.filterMap fun
      | .Name id pos => if (env.kindOf id == some .local && pos.line == (ts.head?.map (·.pos.line)).getD 0) = true then some id else none
      | _ => none) = swNames S ts := by
    unfold swNames Env.kindOf
    rw [h1]
  dsimp only
  rw [hn]
  unfold swG at h
  have hf : (ScopeKind.function != ScopeKind.function) = false := by decide
  rw [hf, Bool.or_false]
  split at h
  · rename_i c1
    cases h
    rw [if_pos c1]
  · rename_i c1
    rw [if_neg c1]
    split at h
    · rename_i c2
      cases h
      rw [if_pos c2]
    · rename_i c2
      rw [if_neg c2]
      split at h
      · rename_i c3
        cases h
        rw [if_pos c3]
      · rename_i c3
        rw [if_neg c3]
        split at h
        · rename_i c4
          cases h
          rw [if_pos c4]
        · rename_i c4
          rw [if_neg c4]
          split at h
          · cases h
          · rename_i c5
            cases h
            rw [if_neg c5]

/-! raise -/
def sRaise1 (x fld : Str) (a : AM) : StM := fun env st => (a env st).bind fun ds s1 => match ds with
  | [d] => .exn x [(fld, d)] s1
  | _ => .bad
def sRaise0 (x : Str) : StM := fun _ st => .exn x [] st
def tMkF (C : Addr) (fld : Str) (ta : TA) : L2.St → Hp → XK → Prop := fun σ H Q => ta σ H fun vs H1 => ∃ v, vs = [v] ∧ ∀ d, H1 d = none → Q (.ref C) (some d) (upd H1 d (.xd [(fld, v)]))
def tMk0 (C : Addr) : L2.St → Hp → XK → Prop := fun _ H Q => Q (.ref C) none H

/-- the context of a def's own rows -/
structure GdS (c : Cfg) (S : Sc) (X : Cx) (E : XK) : Prop extends Gd c S X E where
  own : PassesOwn (model X.prog X.w) X.A X.env X.xe
  tk : Takes X (fun cls d _ H => E cls d H)
  r0 : Room 0 X.A
  hs : X.stack = X.env :: X.outer
  hf : X.env.frame = some X.env.locals
  gx : GdX c S X
  rs1 : ∀ x fld, c.rs x = some (some fld) → ∃ C, X.mg x = some (.ref C) ∧ ∀ (Y : Cx), Y.prog = X.prog → Y.w = X.w → Y.K = X.K → Y.mg = X.mg → Room 0 Y.A → ∀ (a : Expr) (p pos : Pos) (ta : TA), Gl Y x → PA Y [a] ta → plainArgs [a] = true → PMk Y (.Call (.Name x p) [a] [] pos) (tMkF C fld ta)
  rs0 : ∀ x, c.rs x = some none → ∃ C, X.mg x = some (.ref C) ∧ ∀ (Y : Cx), Y.prog = X.prog → Y.w = X.w → Y.K = X.K → Y.mg = X.mg → Room 0 Y.A → ∀ (p pos : Pos), Gl Y x → PMk Y (.Call (.Name x p) [] [] pos) (tMk0 C)
/-- in a try's body -/
theorem GdS.tr {c : Cfg} {S : Sc} {X : Cx} {E E' : XK} (G : GdS c S X E) {pn : List (Addr × Obj)} {xe : Value → Shared → Prop} (tk : Takes (X.tr pn xe) (fun cls d _ H => E' cls d H)) (po : PassesOwn (model X.prog X.w) X.A X.env xe) : GdS c S (X.tr pn xe) E' :=
  { N := G.N, nd := G.nd, ndb := G.ndb, calm := G.calm, room := G.room, sc := G.sc, fn := G.fn, kind := G.kind, gl := G.gl, bi := G.bi, fr := G.fr, cl := G.cl
    ps := passes_call tk fun _ _ _ _ h => h
    own := po, tk := tk, r0 := G.r0, hs := G.hs, hf := G.hf, gx := ⟨G.gx.xn, G.gx.xm, G.gx.xf, G.gx.xi⟩, rs1 := G.rs1, rs0 := G.rs0 }

/-! the readings -/
section
variable (c : Cfg) (r : Ev) (S : Sc)
def isComp : Expr → Bool
  | .ListComp _ _ _ _ => true
  | .SetComp _ _ _ _ => true
  | .DictComp _ _ _ _ _ => true
  | _ => false
def notStar : Expr → Bool
  | .Starred _ _ => false
  | _ => true
def nameSw (y : Str) (py : Pos) (scope : Scope) (pos : Pos) : Bool := (S.sc.names.lookup y == some .local) && (py.line == pos.line) && !(scope.names.any fun (n, k) => n == y && (k == .local || k == .cell))
def rPar (ts vs : List Expr) (names : List Str) : StM := match ts, vs with
  | [.Name x _, .Name y _], [a, b] => (match slotS c.N S x, slotS c.N S y with
    | some i, some j => (match decide (names = [x, y]) && !(i == j) && decide (S.sc.names.lookup x = some .local) && decide (S.sc.names.lookup y = some .local) with
      | true => sPar [i, j] (r.A S [a, b])
      | false => sBad)
    | _, _ => sBad)
  | _, _ => sBad
def rAsgN (y : Str) (py : Pos) (e : Expr) : StM := match slotS c.N S y with
  | some i => (match e with
    | .ListComp elt [⟨tg', iter, ifs, 0⟩] scope pos => (match nameSw S y py scope pos with
      | true => rComp c S sBad tg' iter scope fun t vs => sAsg (.one i) (mLc (r.I S tg' iter) vs t (rIfs r (S.blk scope) ifs) (r.E (S.blk scope) elt))
      | false => sAsg (.one i) (r.E S e))
    | .DictComp key elt [⟨tg', iter, ifs, 0⟩] scope pos => (match nameSw S y py scope pos with
      | true => rComp c S sBad tg' iter scope fun t vs => sAsg (.one i) (mDc (r.I S tg' iter) vs t (rIfs r (S.blk scope) ifs) (r.E (S.blk scope) key) (r.E (S.blk scope) elt))
      | false => sAsg (.one i) (r.E S e))
    | e => (match isComp e with | false => sAsg (.one i) (r.E S e) | true => sBad))
  | none => sBad
def rAsg (tg e : Expr) : StM := match tg, e with
  | .Name y py, e => rAsgN c r S y py e
  | .Subscript o ix _, e => (match plainIx ix with | true => sSub (r.E S e) (r.E S o) (r.E S ix) | false => sBad)
  | .Tuple ts k p, .Tuple vs _ _ => (match swG S ts vs with
    | some none => (match tgOf c.N S (.Tuple ts k p) with | some t => sAsg t (mTup (r.A S vs)) | none => sBad)
    | some (some names) => rPar c r S ts vs names
    | none => sBad)
  | .Tuple ts k p, e => (match tgOf c.N S (.Tuple ts k p), isComp e with
    | some t, false => sAsg t (r.E S e)
    | _, _ => sBad)
  | _, _ => sBad
def rRaise (e : Expr) : StM := match e with
  | .Call (.Name x _) es [] _ => (match S.sc.names.lookup x, c.rs x, es with
    | some .globalImplicit, some (some fld), [a] => (match plainArgs [a] with | true => sRaise1 x fld (r.A S [a]) | false => sBad)
    | some .globalImplicit, some none, [] => sRaise0 x
    | _, _, _ => sBad)
  | _ => sBad
def stS (rec : List Stmt → StM) (s : Stmt) : StM := match s with
  | .Return (some e) _ => sRet (r.E S e)
  | .Return none _ => sRetN
  | .Pass _ => sNil
  | .If t a b _ => sIf (r.B S t) (rec a) (rec b)
  | .Expr e _ => (match isComp e with | false => sDrop (r.E S e) | true => sBad)
  | .For tg iter body [] _ => (match tgOf c.N S tg, notSet iter with | some t, true => sFor (r.I S tg iter) t (rec body) | _, _ => sBad)
  | .Assign [tg] e _ => rAsg c r S tg e
  | .Raise (some e) none _ => rRaise c r S e
  | .Try body (h :: hs) [] [] _ => (match (h :: hs).all (hdB c S) with | true => sTry c S (rec body) (h :: hs) | false => sBad)
  | _ => sBad
def sv : Nat → List Stmt → StM
  | 0, _ => sBad
  | _ + 1, [] => sNil
  | n + 1, [s] => stS c r S (sv n) s
  | n + 1, s :: ss => sSeq (stS c r S (sv n) s) (sv n ss)
end

section
variable {c : Cfg} {r : Ev} {S : Sc} {X : Cx} {E : XK}
theorem nameSw_ok {y : Str} {py : Pos} {scope : Scope} {pos : Pos} (h : nameSw S y py scope pos = true) : S.sc.names.lookup y = some .local ∧ (py.line == pos.line) = true ∧ (scope.names.any fun (n, k) => n == y && (k == .local || k == .cell)) = false := by
  unfold nameSw at h
  simp only [Bool.and_eq_true, Bool.not_eq_true'] at h
  exact ⟨by simpa using h.1.1, h.1.2, h.2⟩
theorem swL {elt : Expr} {gs : List Comprehension} {scope : Scope} {pos py : Pos} {y : Str} {l : Nat} {env : PySem.Env} (h1 : env.scope = S.sc) (hk : S.sc.kind = .function) : swapsWith (.ListComp elt gs scope pos) (some (.Name y py)) l env = pure (nameSw S y py scope pos) := by
  have hb : env.blockKind = .function := by unfold Env.blockKind; rw [h1, hk]; rfl
  have e : swapsWith (.ListComp elt gs scope pos) (some (.Name y py)) l env = pure (env.blockKind == .function && env.kindOf y == some .local && py.line == pos.line && !(scope.names.any fun (n, k) => n == y && (k == .local || k == .cell))) := rfl
  rw [e, hb]
  unfold Env.kindOf nameSw
  rw [h1]
  rfl
theorem swD {key elt : Expr} {gs : List Comprehension} {scope : Scope} {pos py : Pos} {y : Str} {l : Nat} {env : PySem.Env} (h1 : env.scope = S.sc) (hk : S.sc.kind = .function) : swapsWith (.DictComp key elt gs scope pos) (some (.Name y py)) l env = pure (nameSw S y py scope pos) := by
  have hb : env.blockKind = .function := by unfold Env.blockKind; rw [h1, hk]; rfl
  have e : swapsWith (.DictComp key elt gs scope pos) (some (.Name y py)) l env = pure (env.blockKind == .function && env.kindOf y == some .local && py.line == pos.line && !(scope.names.any fun (n, k) => n == y && (k == .local || k == .cell))) := rfl
  rw [e, hb]
  unfold Env.kindOf nameSw
  rw [h1]
  rfl
theorem lcSet_rd {src : SM} {t : Tg} {tst : BM} {me : EM} {own : List (Str × Nat)} {i : Nat} (hsl : ∀ i ∈ t.slots, i ∈ own.map (·.2)) {D : Ends} {σ : L2.St} {H : Hp} (h : TSt (Wof X) E (sAsg (.one i) (mLc src (own.map (·.2)) t tst me)) D σ H) :
    tAsg (tLc (TIt (Wof X) E src) (gTg X.K t) (TB (Wof X) E0 tst) (T (Wof X) E0 me) (own.map (·.2))) (gName i) D σ H := lc_rd hsl (asg_rd h)
theorem dcSet_rd {src : SM} {t : Tg} {tst : BM} {mk me : EM} {own : List (Str × Nat)} {i : Nat} (hsl : ∀ i ∈ t.slots, i ∈ own.map (·.2)) {D : Ends} {σ : L2.St} {H : Hp} (h : TSt (Wof X) E (sAsg (.one i) (mDc src (own.map (·.2)) t tst mk me)) D σ H) :
    tAsg (tDc (TIt (Wof X) E src) (gTg X.K t) (TB (Wof X) E0 tst) (T (Wof X) E0 mk) (T (Wof X) E0 me) (own.map (·.2))) (gName i) D σ H := dc_rd hsl (asg_rd h)
theorem snd_par (R : Snd c r) (G : GdS c S X E) {ts vs : List Expr} {names : List Str} {k k2 : Nat} {p p2 pos : Pos} (hw : swG S ts vs = some (some names)) : PS X (.Assign [.Tuple ts k p] (.Tuple vs k2 p2) pos) (TSt (Wof X) E (rPar c r S ts vs names)) := by
  have hsw := swG_ok (k := k) (k2 := k2) (p := p) (p2 := p2) (env := X.env) G.sc G.kind hw
  unfold rPar
  split
  · split
    · rename_i i j hi hj
      split
      · rename_i h
        simp only [Bool.and_eq_true, decide_eq_true_eq] at h
        obtain ⟨⟨⟨h1, h2⟩, h3⟩, h4⟩ := h
        subst h1
        have hij : i ≠ j := fun z => by subst z; simp at h2
        exact ps_par2D G.calm (by rw [G.N]; exact G.nd) (by rw [G.N]; exact (slotS_ok hi).1) (by rw [G.N]; exact (slotS_ok hj).1) hij (by rw [G.sc]; exact h3) (by rw [G.sc]; exact h4) (R.A S X E G.toGd _) hsw
      · exact ps_bad
    · exact ps_bad
  · exact ps_bad
theorem asg1 {tg : Expr} {t : Tg} (h : tgOf c.N S tg = some t) (env : PySem.Env) : (assignEach [tg] env).map (·.2) = [assign tg env] := by
  cases tg <;> first | rfl | cases h
theorem pg_one (G : GdS c S X E) {y : Str} {py : Pos} {i : Nat} (h : slotS c.N S y = some i) : PG X (.Name y py) (gTg X.K (.one i)) :=
  pg_tgD (S := S) G.calm (by rw [G.N]; exact G.nd) G.sc G.fn (by rw [G.N]; show (slotS c.N S y).map Tg.one = _; rw [h]; rfl)
theorem snd_asgN (R : Snd c r) (G : GdS c S X E) (y : Str) (py : Pos) (e : Expr) (pos : Pos) : PS X (.Assign [.Name y py] e pos) (TSt (Wof X) E (rAsgN c r S y py e)) := by
  have nd : X.N.Nodup := by rw [G.N]; exact G.nd
  unfold rAsgN
  split
  · rename_i i hi
    have hN : X.N[i]? = some y := by rw [G.N]; exact (slotS_ok hi).1
    split
    · split
      · rename_i hs
        obtain ⟨n2, n3, n4⟩ := nameSw_ok hs
        rw [← G.sc] at n2
        exact snd_compP (P := fun m => PS X _ (TSt (Wof X) E m)) ps_bad G.toGd fun t own ok hs' hsl hg G' => psT (fun D σ H h => lcSet_rd hsl h)
          (ps_setLc G.calm nd hN n2 (by rw [swL G.sc G.kind, hs]) (R.I S X E G.toGd _ _) ok hg (fun s H C cl fp => snd_ifs R (G' s H C cl fp) _) (fun s H C cl fp => R.E _ _ _ (G' s H C cl fp) _) hs')
      · rename_i hs
        exact ps_asgD (R.E S X E G.toGd _) (pg_one G hi) ((show swapsWithSole _ _ _ _ = swapsWith (.ListComp _ _ _ _) (some (.Name y py)) pos.line X.env from rfl).trans (by rw [swL G.sc G.kind, hs])) rfl rfl
    · split
      · rename_i hs
        obtain ⟨n2, n3, n4⟩ := nameSw_ok hs
        rw [← G.sc] at n2
        exact snd_compP (P := fun m => PS X _ (TSt (Wof X) E m)) ps_bad G.toGd fun t own ok hs' hsl hg G' => psT (fun D σ H h => dcSet_rd hsl h)
          (ps_setDc G.calm nd hN n2 (by rw [swD G.sc G.kind, hs]) (R.I S X E G.toGd _ _) ok hg (fun s H C cl fp => snd_ifs R (G' s H C cl fp) _) (fun s H C cl fp => R.E _ _ _ (G' s H C cl fp) _) (fun s H C cl fp => R.E _ _ _ (G' s H C cl fp) _) hs')
      · rename_i hs
        exact ps_asgD (R.E S X E G.toGd _) (pg_one G hi) ((show swapsWithSole _ _ _ _ = swapsWith (.DictComp _ _ _ _ _) (some (.Name y py)) pos.line X.env from rfl).trans (by rw [swD G.sc G.kind, hs])) rfl rfl
    · split
      · rename_i hc
        refine ps_asgD (R.E S X E G.toGd _) (pg_one G hi) ?_ ?_ rfl
        · cases e <;> first | rfl | cases hc
        · cases e <;> rfl
      · exact ps_bad
  · exact ps_bad
theorem snd_asg (R : Snd c r) (G : GdS c S X E) (tg e : Expr) (pos : Pos) : PS X (.Assign [tg] e pos) (TSt (Wof X) E (rAsg c r S tg e)) := by
  have nd : X.N.Nodup := by rw [G.N]; exact G.nd
  unfold rAsg
  split
  · exact snd_asgN R G _ _ _ _
  · split
    · rename_i h
      exact ps_subD G.room (R.E S X E G.toGd _) (R.E S X E G.toGd _) (R.E S X E G.toGd _) (fun l hh p z => by rw [z] at h; cases h)
    · exact ps_bad
  · split
    · rename_i hw
      split
      · rename_i t ht
        exact ps_asgD (pe_tupD (R.A S X E G.toGd _)) (pg_tgD (S := S) G.calm nd G.sc G.fn (by rw [G.N]; exact ht)) rfl (swG_ok G.sc G.kind hw) (asg1 ht _)
      · exact ps_bad
    · rename_i names hw
      exact snd_par R G hw
    · exact ps_bad
  · rename_i h4
    split
    · rename_i t ht hcmp
      refine ps_asgD (R.E S X E G.toGd _) (pg_tgD (S := S) G.calm nd G.sc G.fn (by rw [G.N]; exact ht)) ?_ ?_ (asg1 ht _)
      · cases e <;> first | rfl | cases hcmp
      · cases e with
        | Tuple vs k2 p2 => exact absurd rfl (h4 _ _ _)
        | _ => rfl
    · exact ps_bad
  · exact ps_bad
theorem raise1_rd {C : Addr} {x fld : Str} {la : AM} {D : Ends} {σ : L2.St} {H : Hp} (hm : X.mg x = some (.ref C)) (h : TSt (Wof X) E (sRaise1 x fld la) D σ H) : tMkF C fld (TAr (Wof X) E la) σ H fun cls d H' => E cls d H' := by
  obtain ⟨ρ, env, st, hE, hR, hP⟩ := h
  refine ⟨ρ, env, st, hE, hR, bindS hP fun ρ1 H1 ds vs st1 e1 r1 p1 hP1 => ?_⟩
  split at hP1
  · rename_i d
    simp only [Reps] at p1
    obtain ⟨v, t, rfl, hv, rfl⟩ := p1
    refine ⟨v, rfl, fun a ha => ?_⟩
    have ex : Ext (Wof X) ρ1 H1 ρ1 (upd H1 a (.xd [(fld, v)])) := Ext.new ha
    exact hP1 ρ1 _ _ _ ex (r1.new ha) ⟨C, hm, rfl, a, v, rfl, upd_same, Rep.mono ex _ _ hv⟩
  · exact hP1.elim
theorem snd_raise (R : Snd c r) (G : GdS c S X E) (e : Expr) (pos : Pos) : PS X (.Raise (some e) none pos) (TSt (Wof X) E (rRaise c r S e)) := by
  unfold rRaise
  split
  · split
    · rename_i fld a hg hr
      split
      · rename_i hp
        obtain ⟨C, hm, hmk⟩ := G.rs1 _ _ hr
        exact psT (fun D σ H h => raise1_rd hm h) (ps_raise G.calm G.tk (hmk X rfl rfl rfl rfl G.r0 _ _ _ _ (G.glob hg) (R.A S X E G.toGd _) hp))
      · exact ps_bad
    · rename_i hg hr
      obtain ⟨C, hm, hmk⟩ := G.rs0 _ hr
      exact psT (fun D σ H ⟨ρ, env, st, hE, hR, hP⟩ => hP ρ H _ _ Ext.refl hR ⟨C, hm, rfl, rfl⟩) (ps_raise G.calm G.tk (hmk X rfl rfl rfl rfl G.r0 _ _ (G.glob hg)))
    · exact ps_bad
  · exact ps_bad
theorem notComp_sw {e : Expr} {l : Nat} {env : PySem.Env} (h : isComp e = false) : swapsWith e none l env = pure false := by
  cases e <;> first | rfl | cases h
theorem snd_st (R : Snd c r) (G : GdS c S X E) {rec : List Stmt → StM} (hr : ∀ (Y : Cx) (E' : XK), GdS c S Y E' → ∀ ss, PSs Y ss (TSt (Wof Y) E' (rec ss))) (s : Stmt) : PS X s (TSt (Wof X) E (stS c r S rec s)) := by
  unfold stS
  split
  · exact ps_retD (R.E S X E G.toGd _)
  · exact ps_retND
  · exact ps_passD
  · exact ps_ifD (R.B S X E G.toGd _) (hr X E G _) (hr X E G _)
  · split
    · exact ps_dropD (R.E S X E G.toGd _) (notComp_sw (by assumption))
    · exact ps_bad
  · split
    · rename_i t ht hs
      exact ps_forD G.own G.calm (R.I S X E G.toGd _ _) (pg_tgD (S := S) G.calm (by rw [G.N]; exact G.nd) G.sc G.fn (by rw [G.N]; exact ht)) (hr X E G _) (notSet_ok hs _)
    · exact ps_bad
  · exact snd_asg R G _ _ _
  · exact snd_raise R G _ _
  · split
    · rename_i hh
      exact ps_tryD G.gx G.sc G.N (by rw [G.N]; exact G.nd) G.fn G.bi G.ndb G.hs G.hf G.tk (fun E' pn xe tk po => hr _ _ (G.tr tk po) _) hh
    · exact ps_bad
  · exact ps_bad
theorem pss_oneD {s : Stmt} {m : StM} (h : PS X s (TSt (Wof X) E m)) : PSs X [s] (TSt (Wof X) E m) := pss_one h
theorem snd_sv (R : Snd c r) : ∀ (n : Nat) {X : Cx} {E : XK} (G : GdS c S X E) (ss : List Stmt), PSs X ss (TSt (Wof X) E (sv c r S n ss))
  | 0, _, _, _, ss => pss_bad
  | n + 1, _, _, _, [] => pss_nilD
  | n + 1, _, _, G, [s] => pss_oneD (snd_st R G (fun Y E' G' => snd_sv R n G') s)
  | n + 1, _, _, G, s :: t :: ss => pss_consD (snd_st R G (fun Y E' G' => snd_sv R n G') s) (snd_sv R n G (t :: ss))
end
end Dp
set_option Elab.async false
set_option linter.all false
set_option maxRecDepth 100000
set_option maxHeartbeats 4000000
/-! Dp14: a def by its reading. -/
namespace Dp
open PySem PySem.Spec PyProof.Rows L2

def startD (n : Nat) (ds : List D) : Slt := ds.map some ++ List.replicate (n - ds.length) none
/-- a def's answer: np parameters, nN slots -/
def runF (np nN : Nat) (body : StM) (ds : List D) (st : Store) : Out D :=
  if ds.length = np then (match body (startD nN ds) st with
    | .ok (.rt d) s => .ok d s
    | .ok (.nx _) s => .ok .non s
    | .exn c fs s => .exn c fs s
    | _ => .bad) else .bad
theorem start_ok {W : Wd} {ρ : List Addr} {H : Hp} {ds : List D} {vs : List V} {N : List Str} (h : Reps W ρ H ds vs) : RelE W ρ H (startD N.length ds) (L2.start N vs) := by
  have hl := h.length
  refine ⟨by unfold startD L2.start; rw [List.length_append, List.length_append, List.length_map, List.length_map, List.length_replicate, List.length_replicate, hl], fun i d e => ?_⟩
  unfold startD at e
  unfold L2.start
  by_cases hi : i < ds.length
  · rw [List.getElem?_append_left (by rw [List.length_map]; exact hi), List.getElem?_map] at e
    rw [List.getElem?_append_left (by rw [List.length_map, hl]; exact hi), List.getElem?_map]
    cases hd : ds[i]? with
    | none => rw [hd] at e; cases e
    | some d0 =>
      rw [hd] at e
      cases e
      obtain ⟨v, h1, h2⟩ := h.get hd
      exact ⟨v, by rw [h1]; rfl, h2⟩
  · rw [List.getElem?_append_right (by rw [List.length_map]; omega), List.getElem?_replicate] at e
    split at e <;> cases e
/-- GdX, of the written part alone -/
structure GdXK (K : PySem.W.Frag) (mg : Str → Option Value) (c : Cfg) : Prop where
  xn : ∀ x, c.xn x = true → ∃ cv, (mg x = some cv ∨ (mg x = none ∧ bootBuiltins x = some cv ∧ x ≠ "__name__")) ∧ (x == ("__debug__" : Str)) = false
  xm : ∀ cn x b, c.xm cn x = some b → ∀ C cv, mg cn = some (.ref C) → (mg x = some cv ∨ (mg x = none ∧ bootBuiltins x = some cv ∧ x ≠ "__name__")) → PySem.W.exmOne K (.ref C) cv = some b
  xf : ∀ cn f, c.xf cn f = true → ∀ C, mg cn = some (.ref C) → XfC K C ∧ PySem.W.findIn K (.ref C) f = some none
  xi : ∀ cn y b, c.xi cn y = some b → ∀ C, mg cn = some (.ref C) → ExcC K C ∧ ∃ v u, RelV v u ∧ (∀ u', RelV v u' → u' = u) ∧ (mg y = some u ∨ (mg y = none ∧ bootBuiltins y = some u ∧ y ≠ "__name__")) ∧ (y == ("__debug__" : Str)) = false ∧ PySem.W.kitOne K (.ref C) u = some b
/-- what the callees, the module's names keep -/
structure Lib (P : Program) (w : World) (K : PySem.W.Frag) (mg : Str → Option Value) (base : Heap) (c : Cfg) (k : Nat) : Prop where
  gl : ∀ x d, c.gl x = some d → ∃ v u, RelV v u ∧ (mg x = some u ∨ (mg x = none ∧ x ≠ "__name__" ∧ bootBuiltins x = some u)) ∧ (x == ("__debug__" : Str)) = false ∧ ∀ ρ H, Rep ⟨K, mg⟩ ρ H d v
  bi : ∀ x f, c.bi x = some f → mg x = none ∧ bootBuiltins x = some f.val ∧ x ≠ "__name__" ∧ (x == ("__debug__" : Str)) = false
  fr : ∀ x, c.fr x = true → mg x = none
  cl : ∀ x n f, c.cl x = some (n, f) → ∃ a fd ps, FnOk P w K mg base (L2.CX P w) k a fd ps (spOf ⟨K, mg⟩ n f) ∧ mg x = some (.ref a) ∧ PySem.W.keepIn K (.ref a) = true ∧ Binds K fd ps [] ∧ n = ps.length ∧
    (x == ("__debug__" : Str)) = false ∧ ∀ ks pm, c.kw x ks = some pm → ∀ X : Cx, X.K = K → KwOk X fd ps ks pm
  gx : GdXK K mg c
  rs1 : ∀ x fld, c.rs x = some (some fld) → ∃ C, mg x = some (.ref C) ∧ ∀ (X : Cx), X.prog = P → X.w = w → X.K = K → X.mg = mg → Room 0 X.A → ∀ (a : Expr) (p pos : Pos) (ta : TA), Gl X x → PA X [a] ta → plainArgs [a] = true → PMk X (.Call (.Name x p) [a] [] pos) (tMkF C fld ta)
  rs0 : ∀ x, c.rs x = some none → ∃ C, mg x = some (.ref C) ∧ ∀ (X : Cx), X.prog = P → X.w = w → X.K = K → X.mg = mg → Room 0 X.A → ∀ (p pos : Pos), Gl X x → PMk X (.Call (.Name x p) [] [] pos) (tMk0 C)
section
variable {P : Program} {w : World} {K : PySem.W.Frag} {mg : Str → Option Value} {base : Heap} {c : Cfg} {k : Nat}
theorem gdS_of (L : Lib P w K mg base c k) {ps : List Str} {sc : Scope} (S : FnScope c.N ps sc) (hdb : ∀ x ∈ c.N, (x == ("__debug__" : Str)) = false ∧ (x == ("__classdict__" : Str)) = false)
    {qual : Str} {f : Addr} {cdv : Value} {A : Around} {outer : List PySem.Env} {s : Shared} {H : Hp} {E : XK} (hr : Room k (A.deeper (envOfC qual sc s.heap.objs.size f cdv))) :
    GdS c ⟨sc, fun _ => true⟩ (cxOf (L2.CX P w) P w K mg base c.N qual sc f cdv A outer s H E) E :=
  have tk : Takes (cxOf (L2.CX P w) P w K mg base c.N qual sc f cdv A outer s H E) (fun cls d _ H => E cls d H) := takes_of rfl rfl rfl rfl
  have hr0 : Room 0 (A.deeper (envOfC qual sc s.heap.objs.size f cdv)) := hr.mono (Nat.zero_le _)
  { N := rfl
    nd := S.nd
    ndb := hdb
    calm := rfl
    room := by have := hr.un; show (A.deeper (envOfC qual sc s.heap.objs.size f cdv)).units + 200 < cLine; omega
    sc := rfl
    fn := rfl
    kind := S.kind
    gl := L.gl
    bi := L.bi
    fr := L.fr
    cl := fun x n g h => by
      obtain ⟨a, fd, ps, h1, h2, h3, h4, h5, h6, h7⟩ := L.cl x n g h
      exact ⟨k, a, fd, ps, h1, hr, h2, h3, h4, h5, h6, fun ks pm hk => h7 ks pm hk _ rfl⟩
    ps := passes_call tk fun _ _ _ _ h => h
    own := passes_of rfl
    tk := tk
    r0 := hr0
    hs := rfl
    hf := rfl
    gx := ⟨L.gx.xn, L.gx.xm, L.gx.xf, L.gx.xi⟩
    rs1 := L.rs1
    rs0 := L.rs0 }
theorem def_ok {x qual : Str} {st : Stmt} {f : Addr} {fd : FuncData} {ps : List Str} {m n : Nat} (F : Fun K x qual st f fd) (S : FnScope c.N ps (defScope st)) (hdb : ∀ x ∈ c.N, (x == ("__debug__" : Str)) = false ∧ (x == ("__classdict__" : Str)) = false)
    (L : Lib P w K mg base c k) {body : StM} (hb : sv c (ev c m) ⟨defScope st, fun _ => true⟩ n (defBody st) = body) : FnOk P w K mg base (L2.CX P w) (k + 1) f fd ps (spOf ⟨K, mg⟩ ps.length (runF ps.length c.N.length body)) := by
  refine Fun.okX F S (fun vs H Q E h => h.1) fun cdv A outer s H vs Q E hr hsp => ?_
  obtain ⟨hl, ρ, st0, ds, hds, hR, hP⟩ := hsp
  have G := gdS_of (f := f) (cdv := cdv) (outer := outer) (s := s) (H := H) (E := E) L S hdb hr
  refine ⟨_, snd_sv (snd_ev c m) n G (defBody st), ρ, startD c.N.length ds, st0, start_ok hds, hR, ?_⟩
  rw [hb]
  unfold runF at hP
  rw [if_pos (by rw [← hds.length]; exact hl)] at hP
  cases ho : body (startD c.N.length ds) st0 with
  | bad => rw [ho] at hP; exact hP.elim
  | exn c fs s1 => rw [ho] at hP; exact hP
  | ok fl s1 =>
    rw [ho] at hP
    cases fl with
    | nx env1 => exact fun ρ1 σ1 H1 e1 hE1 hR1 => hP ρ1 H1 .non e1 hR1 (rep_non.mpr rfl)
    | rt d => exact hP
    | bk env1 => exact hP.elim
    | ct env1 => exact hP.elim
end
end Dp
set_option Elab.async false
set_option linter.all false
set_option maxRecDepth 100000
set_option maxHeartbeats 4000000
/-! DpE: own exceptions with one field, over any built-in class: class C(B): def __init__(self, f): self.f = f. -/
namespace PySem
namespace HandSPX
open PySem.W PySem.Calls PyProof.Rows Builtin Builtin.ObjectAttr
section
variable {prog : Program} {w : World} {A : Around} {E : Value → Shared → Prop} {hp : Heap} {g : Array GenState} {d : Drawn} {t : Nat} {os : OsState} {R : Result → Shared → Prop}
theorem osaB {K : W.Frag} {name : Str} {tk : Tok} {v : Value} {x C : Addr} {fv : Array Value} {cd : ClassData} {bm : List Value} (hps : ∀ self, refuseLoop self "__setattr__" bm = pure ()) (hbo : bm.contains (.type "object") = true)
    (X : K.In hp) (hx : hp.get? x = some { cls := .ref C, data := .fields fv }) (hcd : W.clsIn K C = some cd) (hm : cd.mro = .ref C :: bm) (hh : cd.hasDict = true) (ha : W.findIn K (.ref C) name = some none)
    (hq : ∀ h' tk' dx, (∀ b o, b ≠ x → hp.get? b = some o → h'.get? b = some o) → hp.objs.size ≤ dx → dx ≠ x → h'.get? x = some { cls := .ref C, dict := some dx, data := .fields fv } →
      h'.Ns1 dx (fun y => if y = name then some v else none) → R (.ok (.ret .none)) ⟨h', g, d, tk', os⟩) :
    codeAny (model prog w) A (.call (.builtin "object.__setattr__") ⟨[.ref x, .str name tk, v], []⟩) R ⟨hp, g, d, t, os⟩ := by
  have inst : W.InstAt hp x { cls := .ref C, data := .fields fv } C none := ⟨hx, rfl, rfl, trivial⟩
  have facts := F.store_object
  have full : cd.mro.isEmpty = false := by rw [hm]; rfl
  have toObj : cd.mro.contains (.type "object") = true := by rw [hm, List.contains_cons, hbo, Bool.or_true]
  have apart : x ≠ hp.objs.size := Nat.ne_of_lt (Heap.lt_size hx)
  have isObj : W.Looks (model prog w) hp (isInstance (.ref x) (.type "object")) true := inst.type.andThen (W.looks_mroIn X (by unfold W.mroIn; rw [hcd, Option.bind_some, if_neg (by rw [full]; decide), toObj]))
  refine codeAny_call_builtin facts.slot.plain facts.entry (@W.check_slot (model prog w) _ _ ⟨hp, g, d, t, os⟩ "object.__setattr__" "object" "__setattr__" (.ref x) [.str name tk, v] [] _ facts.kind facts.split isObj (facts.args (.ref x) (.str name tk) v) ?_)
  have ofMro : W.Looks (model prog w) hp (mroOf (.ref C)) cd.mro := (W.looks_clsIn X hcd).andThen .now
  have taker : W.Looks (model prog w) hp (storeTaker? none) none := .now
  have ofCls : W.Looks (model prog w) hp (classData C) cd := W.looks_clsIn X hcd
  have pass : refuseLoop (.ref x) "__setattr__" cd.mro = pure () := by rw [hm, refuseLoop_ref, hps]
  rw [W.osa_eq, refuse_eq]
  refine wpAny_bind (wpAny_bind (inst.type.at (wpAny_bind (ofMro.at ?_))))
  rw [pass]
  refine wpAny_pure (wpAny_bind (inst.type.at (wpAny_bind ((W.looks_findIn X ha).at (wpAny_bind (taker.at ?_))))))
  show wpAny _ _ (Builtin.ObjectAttr.storeInOwnDict (.ref x) (.ref C) (.str name tk) name v false) _ _ _
  obtain ⟨nm, bs, mro, ns, qn, hd, sn, sb, ab, col, del⟩ := cd
  dsimp only at hh
  subst hh
  unfold Builtin.ObjectAttr.storeInOwnDict Builtin.ObjectAttr.ownDictForStores
  repeat (first | with_reducible refine store_in_new ?_ ?_ | with_reducible refine wpAny_loadPart_at hx ?_ | with_reducible refine ofCls.at ?_ | wp_step)
  · exact ⟨_, #[], _, (Heap.get?_update_ne _ _ _ _ apart.symm).trans (Heap.get?_push_at rfl rfl), rfl, fun e he => absurd he (by simp), fun _ => rfl⟩
  · intro h' tk' hn' hs
    have hx₁ : (hp.push { cls := .type "dict", data := .dict #[] }).get? x = some { cls := .ref C, data := .fields fv } := Heap.get?_push_of_some _ hx
    exact hq h' tk' hp.objs.size (fun b o hb ho => (hs.2 b (Nat.ne_of_lt (Heap.lt_size ho))).trans ((Heap.get?_update_ne _ _ _ _ hb).trans (Heap.get?_push_of_some _ ho))) (Nat.le_refl _) apart.symm ((hs.2 x apart).trans (Heap.get?_update_self _ hx₁ rfl)) hn'
end
end HandSPX
end PySem

namespace Dp
open PySem PySem.Spec PyProof.Rows L2 PySem.HandSPX
/-! ### the text of __init__ -/
def initArgs (fld : Str) (p1 p2 : Pos) : Arguments := { posonlyargs := [], args := [{ arg := "self", annotation := none, pos := p1 }, { arg := fld, annotation := none, pos := p2 }], vararg := none, kwonlyargs := [], kw_defaults := [], kwarg := none, defaults := [] }
def initBody (fld : Str) (q1 q2 q3 q4 : Pos) : List Stmt := [.Assign [.Attribute (.Name "self" q1) fld q2] (.Name fld q3) q4]
def initScope (fld : Str) : Scope := { kind := .function, names := [(PySem.Str.ofString "self", .local), (fld, .local)], isGenerator := false, isCoroutine := false, more := [] }
/-- what the written part says of the class at C, over a built-in class of the mro bm, and of its __init__ at fI -/
structure OwnCl (K : PySem.W.Frag) (mg : Str → Option Value) (bm : List Value) (newId : String) (x qual fld : Str) (C fI : Addr) : Prop where
  gC : mg x = some (.ref C)
  cls : ∃ nm q N bs sn sub ab col dd k0 k1 k2 k3 k5, K.lookup C = some (excClassObj nm q C N bs bm true sn sub ab col dd k0 k1 k2 k3 k5 newId)
  sa : PySem.W.findIn K (.ref C) "__setattr__" = some (some (.builtin "object.__setattr__"))
  no : PySem.W.findIn K (.ref C) fld = some none
  iC : PySem.W.findIn K (.ref C) "__init__" = some (some (.ref fI))
  tC : PySem.W.typeIn K (.ref fI) = some (.type "function")
  kC : PySem.W.keepIn K (.ref C) = true
  exC : PySem.W.subIn K (.ref C) (.type "BaseException") = some true
  tyC : PySem.W.typeIn K (.ref C) = some (.type "type")
  fn : ∃ (oc : Value) (od : Option Addr) (doc pm : Value) (an : Option Addr) (cdv ct : Value) (osl : Array (Option Value)) (p1 p2 q1 q2 q3 q4 : Pos),
    K.lookup fI = some ⟨oc, od, .func (PySem.W.fnOf "__init__" qual (initArgs fld p1 p2) (initBody fld q1 q2 q3 q4) (initScope fld) .none .none doc pm an cdv ct), osl⟩ ∧ PySem.W.codeIn K cdv qual = true
/-- what the making leaves: the exception at e, its dict at d -/
structure Made (h h' : Heap) (e C d : Addr) (fld : Str) (v : Value) : Prop where
  keep : ∀ b o, h.get? b = some o → h'.get? b = some o
  new : h.objs.size ≤ e
  obj : ∃ oe vs, h'.get? e = some oe ∧ oe.cls = .ref C ∧ oe.dict = some d ∧ oe.data = .fields vs ∧ vs[1]? = some .none
  dbig : h.objs.size ≤ d
  dne : d ≠ e
  ns : h'.Ns1 d (fun y => if y = fld then some v else none)
/-- a field's name, plain -/
structure FldOk (fld : Str) : Prop where
  bnd : ∀ (qual : Str) (p1 p2 q1 q2 q3 q4 : Pos) (doc pm : Value) (an : Option Addr) (cdv ct e v : Value), bindArgs (PySem.W.fnOf "__init__" qual (initArgs fld p1 p2) (initBody fld q1 q2 q3 q4) (initScope fld) .none .none doc pm an cdv ct) ⟨[e, v], []⟩ = pure [(("self" : Str), e), (fld, v)]
  self : (initScope fld).names.lookup ("self" : Str) = some .local
  own : (initScope fld).names.lookup fld = some .local
  ne : fld ≠ "self"
  db : (fld == ("__debug__" : Str)) = false
section
variable {prog : Program} {w : World} {A : Around} {R : Result → Shared → Prop} {s : Shared} {K : PySem.W.Frag} {mg : Str → Option Value} {bm : List Value} {newId : String} {x qual fld : Str} {C fI : Addr}
theorem ld_local {M : Model} {s : Shared} {E : Value → Shared → Prop} {name : Str} {scope : Scope} {L a : Addr} {cd : Value} {m : Str → Option Value} {y : Str} {pos : Pos} {v : Value} {Q : Value → Shared → Prop} {A : Around} (hn : s.heap.Ns L m) (hv : m y = some v) (h : Q v s)
    (hk : scope.kind = .function) (hl : scope.names.lookup y = some NameKind.local) (hd : (y == ("__debug__" : Str)) = false) :
    wpAny M A (eval (.Name y pos) (envOfC name scope L a cd)) Q E s := wpAny_Name (wpAny_loadName_local hk hl hn hv h) hd
theorem init_run (hps : ∀ self, refuseLoop self "__setattr__" bm = pure ()) (hbo : bm.contains (.type "object") = true) (fo : FldOk fld) (T : OwnCl K mg bm newId x qual fld C fI) {e t0 : Addr} {v : Value} (X : K.In s.heap) (hlim : s.heap.NoLimit)
    (hx : s.heap.get? e = some (excO C t0)) (hroom : A.depth < recursionLimit)
    (hq : ∀ h' tk dx, (∀ b o, b ≠ e → s.heap.get? b = some o → h'.get? b = some o) → h'.get? e = some { cls := .ref C, dict := some dx, data := .fields #[.ref t0, .none, .none, .none, .bool false, .none] } → s.heap.objs.size ≤ dx → dx ≠ e →
      h'.Ns1 dx (fun y => if y = fld then some v else none) → R (.ok (.ret .none)) { s with heap := h', toks := tk }) :
    codeAny (model prog w) A (.call (.ref fI) ⟨[.ref e, v], []⟩) R s := by
  obtain ⟨oc, od, doc, pm, an, cdv, ct, osl, p1, p2, q1, q2, q3, q4, ho, hcd⟩ := T.fn
  obtain ⟨nm, q, N, bs, sn, sub, ab, col, dd, k0, k1, k2, k3, k5, hC⟩ := T.cls
  have hcl : PySem.W.clsIn K C = some { name := nm, bases := bs, mro := .ref C :: bm, ns := N, qualname := q, hasDict := true, slotNames := sn, subclasses := sub, abstract := ab, collection := col, hasDel := false } := by unfold PySem.W.clsIn; rw [hC] <;> rfl
  refine Att.call_fn (binds := [("self", .ref e), (fld, v)]) X hlim ho hcd hroom (BindsTo.of_eq (fo.bnd ..)) (by simp [fo.self, fo.own]) (fun s₁ IC => ?_) rfl rfl rfl
  obtain ⟨h₁, tk₁, rfl⟩ := IC.toInCall.same
  have kp : ∀ b o, s.heap.get? b = some o → h₁.get? b = some o := IC.toInCall.keep
  have hn := IC.toInCall.ns
  have X₁ : K.In h₁ := X.keeps kp
  have hx₁ := kp _ _ hx
  have kd : ∀ y, (envOfC qual (initScope fld) s.heap.objs.size fI cdv).kindOf y = (initScope fld).names.lookup y := fun y => rfl
  have m1 : bindL (envOfC qual (initScope fld) s.heap.objs.size fI cdv).kindOf [(("self" : Str), Value.ref e), (fld, v)] (fun _ => none) fld = some v := by
    unfold bindL bindL bindL
    rw [kd, kd, fo.self, fo.own, if_pos rfl, if_pos rfl]
    first | done | exact if_pos rfl
  have m2 : bindL (envOfC qual (initScope fld) s.heap.objs.size fI cdv).kindOf [(("self" : Str), Value.ref e), (fld, v)] (fun _ => none) "self" = some (.ref e) := by
    unfold bindL bindL bindL
    rw [kd, kd, fo.self, fo.own, if_pos rfl, if_pos rfl]
    show (if ("self" : Str) = fld then some v else if ("self" : Str) = "self" then some (Value.ref e) else none) = some (.ref e)
    rw [if_neg (Ne.symm fo.ne), if_pos rfl]
  show wpAny _ _ (execs _ _) _ _ _
  refine wpAny_execs_cons (plainObj_wpAny_Assign_Attribute ?_)
  refine ld_local (v := v) hn m1 (ld_local (v := .ref e) hn m2 ?_ rfl fo.self (by decide)) rfl fo.own fo.db
  refine PySem.W.set_plain X₁ (ox := excO C t0) (od := none) ⟨hx₁, rfl, rfl, trivial⟩ T.sa ?_
  refine PySem.HandSPX.osaB hps hbo X₁ hx₁ hcl rfl rfl T.no (fun h₃ tk₃ dx k₃ dn dne hx₃ hn₃ => ?_)
  show wpAny _ _ (execs _ _) _ _ _
  have z : s.heap.objs.size < h₁.objs.size := hn.lt
  exact wpAny_execs_nil (hq h₃ tk₃ dx (fun b o hb e' => k₃ b o hb (kp b o e')) hx₃ (Nat.le_of_lt (Nat.lt_of_lt_of_le z dn)) dne hn₃)
theorem made_run {B initId : String} (FB : ExcBaseFacts B newId initId bm) (hps : ∀ self, refuseLoop self "__setattr__" bm = pure ()) (hbo : bm.contains (.type "object") = true) (fo : FldOk fld) (T : OwnCl K mg bm newId x qual fld C fI) {v : Value} (X : K.In s.heap) (hlim : s.heap.NoLimit) (hroom : A.depth + 1 < recursionLimit)
    (hq : ∀ h' tk e d, Made s.heap h' e C d fld v → R (.ok (.ret (.ref e))) { s with heap := h', toks := tk }) :
    codeAny (model prog w) A (.call (.ref C) ⟨[v], []⟩) R s := by
  obtain ⟨nm, q, N, bs, sn, sub, ab, col, dd, k0, k1, k2, k3, k5, hC⟩ := T.cls
  obtain ⟨hp, g, dr, tk, os⟩ := s
  have k : ∀ b o, hp.get? b = some o → ((hp.push (PySem.W.kdv_tup [v])).push (excO C hp.objs.size)).get? b = some o := fun b o e => Heap.get?_push_of_some _ (Heap.get?_push_of_some _ e)
  have hget : ((hp.push (PySem.W.kdv_tup [v])).push (excO C hp.objs.size)).get? (hp.objs.size + 1) = some (excO C hp.objs.size) := by heap_get
  have h1 : [v].length ≤ sizeLine := by show 1 ≤ sizeLine; decide
  refine call_own FB (fun _ => rfl) (X _ _ hC) (PySem.W.looks_findIn X T.iC) (fun self => PySem.W.bind_fn X self T.tC) h1 ?_
  refine init_run (s := ⟨(hp.push (PySem.W.kdv_tup [v])).push (excO C hp.objs.size), g, dr, tk, os⟩) hps hbo fo T (X.keeps k) (hlim.keeps k) hget ?_ fun h' tk' dx k' hx dn dne hns => ?_
  · show A.depth + 1 < recursionLimit
    exact hroom
  · have old : ∀ b o, hp.get? b = some o → h'.get? b = some o := fun b o e => k' b o (Nat.ne_of_lt (Nat.lt_succ_of_lt (Heap.lt_size e))) (k b o e)
    have z : hp.objs.size + 1 + 1 ≤ dx := by
      have q := dn
      simp only [Heap.size_push] at q
      exact q
    exact ⟨rfl, hq h' tk' (hp.objs.size + 1) dx ⟨old, Nat.le_succ _, ⟨_, _, hx, rfl, rfl, rfl, rfl⟩, Nat.le_trans (Nat.le_trans (Nat.le_succ _) (Nat.le_succ _)) z, dne, hns⟩⟩
end
/-- C(e): the exception with its one field -/
theorem pmk_one {X : Cx} {bm : List Value} {B newId initId : String} {x qual fld : Str} {C fI : Addr} {a : Expr} {ta : TA} {p pos : Pos} (FB : ExcBaseFacts B newId initId bm) (hps : ∀ self, refuseLoop self "__setattr__" bm = pure ()) (hbo : bm.contains (.type "object") = true) (fo : FldOk fld)
    (T : OwnCl X.K X.mg bm newId x qual fld C fI) (hr : Room 0 X.A) (hxd : (x == ("__debug__" : Str)) = false) (hg : Gl X x) (ha : PA X [a] ta) (hpl : plainArgs [a] = true) : PMk X (.Call (.Name x p) [a] [] pos) (tMkF C fld ta) := by
  intro pins s σ H Q I h
  obtain ⟨e1, e2⟩ := plain_cons hpl
  refine wpAny_Call_Name_kw (ld_glob I hg T.gC ?_ hxd)
  refine PySem.W.callWith_K (h₀ := X.base) I.ok.mod.kin T.kC (thn (ha.run pos pins s σ H _ I h) fun us s1 hh => ?_) (e2 _) rfl
  obtain ⟨vs, H1, I1, r1, v, ev, q1⟩ := hh
  subst ev
  refine ⟨I1.kIn, ?_⟩
  cases r1 with
  | cons rv rn =>
    rename_i v' us'
    cases rn
    show wpAny _ _ (call (.ref C) [v']) _ _ _
    have hlim := I1.nolimit
    obtain ⟨hp, g, dr, tk, os⟩ := s1
    refine wpAny_call (made_run FB hps hbo fo T I1.kIn hlim (by have := hr.dp; omega) fun h' tk' e d M => ?_)
    show MkP X pins σ Q (.ref e) ⟨h', g, dr, tk', os⟩
    obtain ⟨oe, fv, hoe, hc, hd, hdat, h1⟩ := M.obj
    have hns := M.ns
    obtain ⟨G', g1, g2⟩ := restrict h' fun b => decide (b ≠ e)
    have gk : ∀ b, b ≠ e → G'.get? b = h'.get? b := fun b hb => g1 b (decide_eq_true hb)
    have ge : G'.get? e = none := g2 e (by simp)
    have old : ∀ b o, hp.get? b = some o → G'.get? b = some o := fun b o q => (gk b (Nat.ne_of_lt (Nat.lt_of_lt_of_le (Heap.lt_size q) M.new))).trans (M.keep b o q)
    have rel : ∀ f, RelO (List.lookup f [(fld, v)]) (if f = fld then some v' else none) := fun f => by
      by_cases hf : f = fld
      · rw [if_pos hf, List.lookup_cons, beq_iff_eq.mpr hf]
        exact rv
      · have hb : (f == fld) = false := by simpa using hf
        rw [if_neg hf, List.lookup_cons, hb]
        trivial
    have ob : ObjOk X.prog X.w (upd H1 d (.xd [(fld, v)])) G' d (.xd [(fld, v)]) := ⟨_, hns.at (fun o q => (gk d M.dne).trans q), rel⟩
    have J : Inv X pins σ (upd H1 d (.xd [(fld, v)])) ⟨G', g, dr, tk', os⟩ := I1.laid (t' := tk') old M.dbig ob
    refine ⟨e, oe, fv, ⟨G', g, dr, tk', os⟩, _, .ref C, some d, rfl, J, fun b o q => ?_, ge, hoe, ⟨hc, hd⟩, hdat, h1, ?_, rfl, I1.bare, raises_own T.exC T.tyC, q1 d (I1.hok.fresh M.dbig)⟩
    · by_cases hb : b = e
      · have q' : G'.get? b = some o := q
        rw [hb, ge] at q'; cases q'
      · exact (gk b hb).symm.trans q
    · rw [upd_ne (Ne.symm M.dne)]
      exact I1.hok.fresh M.new
theorem fld_name : FldOk ("name" : Str) := ⟨fun _ _ _ _ _ _ _ _ _ _ _ _ _ _ => by first | rfl | with_unfolding_all rfl, by decide +kernel, by decide +kernel, by decide +kernel, by decide +kernel⟩
end Dp
namespace Dp
open PySem PySem.Spec PyProof.Rows L2 PySem.HandSPX
/-- C(): an own exception class without own __init__ -/
theorem pmk_none {X : Cx} {C : Addr} {bmB : List Value} {B newId initId : String} {x : Str} {p pos : Pos} (FB : ExcBaseFacts B newId initId bmB) (q : PySem.W.excIn X.K C bmB newId = true) (gC : X.mg x = some (.ref C))
    (kC : PySem.W.keepIn X.K (.ref C) = true) (r : Raises X (.ref C)) (hg : Gl X x) (hdb : (x == ("__debug__" : Str)) = false) : PMk X (.Call (.Name x p) [] [] pos) (tMk0 C) := by
  intro pins s σ H Q I h
  refine wpAny_Call_Name_kw (ld_glob I hg gC ?_ hdb)
  refine PySem.W.callWith_K0 I.kIn kC ?_
  show wpAny _ _ (call (.ref C) []) _ _ _
  obtain ⟨hp, g, dr, tk, os⟩ := s
  obtain ⟨bm, N, nm, qn, bs, hdct, sn, sub, ab, col, dd, k0, k1, k2, k3, k5, mN, hC, hN, hni, T⟩ := exc_obj I.kIn q
  refine wpAny_call_exc_subT FB T hC hN hni (fun h' e hm => ?_) (by show 0 ≤ sizeLine; decide)
  exact mk_of I hm r h (I.hok.gone hm.new)
end Dp
set_option Elab.async false
set_option linter.all false
set_option maxRecDepth 100000
set_option maxHeartbeats 4000000
/-! DpL: from the facts of the written part to the defs' promises, one by one. -/
namespace Dp
open PySem PySem.Spec PyProof.Rows L2
theorem look_mem {α β : Type} [BEq α] [LawfulBEq α] {x : α} {y : β} : ∀ {l : List (α × β)}, List.lookup x l = some y → (x, y) ∈ l
  | [], h => by cases h
  | (a, b) :: l, h => by
    rw [List.lookup_cons] at h
    split at h
    · rename_i e
      cases h
      rw [eq_of_beq e]
      exact List.mem_cons_self
    · exact List.mem_cons_of_mem _ (look_mem h)
abbrev KwT := Str → List (List Str × List Nat)
/-- a def that keeps what its reading says -/
def CalOk (P : Program) (w : World) (K : PySem.W.Frag) (mg : Str → Option Value) (base : Heap) (kt : KwT) (k : Nat) (x : Str) (n : Nat) (f : List D → Store → Out D) : Prop :=
  ∃ a fd ps, FnOk P w K mg base (L2.CX P w) k a fd ps (spOf ⟨K, mg⟩ n f) ∧ mg x = some (.ref a) ∧ PySem.W.keepIn K (.ref a) = true ∧ Binds K fd ps [] ∧ n = ps.length ∧ (x == ("__debug__" : Str)) = false ∧ ∀ e ∈ kt x, ∀ X : Cx, X.K = K → KwOk X fd ps e.1 e.2
section
variable {P : Program} {w : World} {K : PySem.W.Frag} {mg : Str → Option Value} {base : Heap} {kt : KwT} {c : Cfg} {j k n : Nat} {x : Str} {f : List D → Store → Out D}
theorem CalOk.mono (h : CalOk P w K mg base kt j x n f) (l : j ≤ k) : CalOk P w K mg base kt k x n f := by
  obtain ⟨a, fd, ps, h1, h2⟩ := h
  exact ⟨a, fd, ps, h1.mono l, h2⟩
/-- where the def stands, and that its rows are these -/
def DefAt (K : PySem.W.Frag) (mg : Str → Option Value) (x : Str) (st : Stmt) : Prop := ∃ a fd, mg x = some (.ref a) ∧ Fun K x x st a fd
/-- what calls by keywords give -/
def KwsOk (K : PySem.W.Frag) (x : Str) (st : Stmt) (ps : List Str) (l : List (List Str × List Nat)) : Prop := ∀ a fd, Fun K x x st a fd → ∀ e ∈ l, ∀ X : Cx, X.K = K → KwOk X fd ps e.1 e.2
def BindOk (K : PySem.W.Frag) (x : Str) (st : Stmt) (ps : List Str) : Prop := ∀ a fd, Fun K x x st a fd → Binds K fd ps []
theorem cal_of {st : Stmt} {ps : List Str} {m n' : Nat} {body : StM} (h : DefAt K mg x st) (S : FnScope c.N ps (defScope st)) (hdb : ∀ y ∈ c.N, (y == ("__debug__" : Str)) = false ∧ (y == ("__classdict__" : Str)) = false) (L : Lib P w K mg base c k)
    (hb : sv c (ev c m) ⟨defScope st, fun _ => true⟩ n' (defBody st) = body) (B : BindOk K x st ps) (kw : KwsOk K x st ps (kt x)) (hx : (x == ("__debug__" : Str)) = false) (hn : n = ps.length) (hf : runF n c.N.length body = f) : CalOk P w K mg base kt (k + 1) x n f := by
  obtain ⟨a, fd, hm, F⟩ := h
  subst hn hf
  exact ⟨a, fd, ps, def_ok F S hdb L hb, hm, F.kp, B a fd F, rfl, hx, kw a fd F⟩
/-- with no fuel left nothing is promised -/
theorem cal_bad {st : Stmt} {ps : List Str} (h : DefAt K mg x st) (B : BindOk K x st ps) (kw : KwsOk K x st ps (kt x)) (hx : (x == ("__debug__" : Str)) = false) (hn : n = ps.length) : CalOk P w K mg base kt k x n (fun _ _ => .bad) := by
  obtain ⟨a, fd, hm, F⟩ := h
  subst hn
  refine ⟨a, fd, ps, ⟨fun vs H Q E hs => hs.1, fun A outer s H args us vs Q E _ _ _ _ hs => ?_⟩, hm, F.kp, B a fd F, rfl, hx, kw a fd F⟩
  obtain ⟨_, _, _, _, _, _, hP⟩ := hs
  exact hP.elim
end
/-- what the module's names and classes keep, whatever the def -/
structure Base (P : Program) (w : World) (K : PySem.W.Frag) (mg : Str → Option Value) (gl' : Str → Option D) (bi' : Str → Option Bi) (fr' : Str → Bool) (rs' : Str → Option (Option Str)) (xn' : Str → Bool) (xm' : Str → Str → Option Bool) (xf' : Str → Str → Bool) (xi' : Str → Str → Option Bool) : Prop where
  gl : ∀ x d, gl' x = some d → ∃ v u, RelV v u ∧ (mg x = some u ∨ (mg x = none ∧ x ≠ "__name__" ∧ bootBuiltins x = some u)) ∧ (x == ("__debug__" : Str)) = false ∧ ∀ ρ H, Rep ⟨K, mg⟩ ρ H d v
  bi : ∀ x f, bi' x = some f → mg x = none ∧ bootBuiltins x = some f.val ∧ x ≠ "__name__" ∧ (x == ("__debug__" : Str)) = false
  fr : ∀ x, fr' x = true → mg x = none
  gx : GdXK K mg ⟨[], gl', bi', fr', fun _ => none, fun _ _ => none, rs', xn', xm', xf', xi'⟩
  rs1 : ∀ x fld, rs' x = some (some fld) → ∃ C, mg x = some (.ref C) ∧ ∀ (X : Cx), X.prog = P → X.w = w → X.K = K → X.mg = mg → Room 0 X.A → ∀ (a : Expr) (p pos : Pos) (ta : TA), Gl X x → PA X [a] ta → plainArgs [a] = true → PMk X (.Call (.Name x p) [a] [] pos) (tMkF C fld ta)
  rs0 : ∀ x, rs' x = some none → ∃ C, mg x = some (.ref C) ∧ ∀ (X : Cx), X.prog = P → X.w = w → X.K = K → X.mg = mg → Room 0 X.A → ∀ (p pos : Pos), Gl X x → PMk X (.Call (.Name x p) [] [] pos) (tMk0 C)
section
variable {P : Program} {w : World} {K : PySem.W.Frag} {mg : Str → Option Value} {base : Heap} {kt : KwT} {k : Nat} {gl : Str → Option D} {bi : Str → Option Bi} {fr : Str → Bool} {rs : Str → Option (Option Str)} {xn : Str → Bool} {xm : Str → Str → Option Bool} {xf : Str → Str → Bool} {xi : Str → Str → Option Bool}
theorem lib_of (B : Base P w K mg gl bi fr rs xn xm xf xi) {N : List Str} {cl : List (Str × Nat × (List D → Store → Out D))} {kw : List ((Str × List Str) × List Nat)} (hcl : ∀ e ∈ cl, CalOk P w K mg base kt k e.1 e.2.1 e.2.2) (hkw : ∀ e ∈ kw, (e.1.2, e.2) ∈ kt e.1.1) :
    Lib P w K mg base ⟨N, gl, bi, fr, fun x => List.lookup x cl, fun x ks => List.lookup (x, ks) kw, rs, xn, xm, xf, xi⟩ k where
  gl := B.gl
  bi := B.bi
  fr := B.fr
  cl := fun x n f h => by
    obtain ⟨a, fd, ps, h1, h2, h3, h4, h5, h6, h7⟩ := hcl _ (PySem.mem_of_lookup h)
    exact ⟨a, fd, ps, h1, h2, h3, h4, h5, h6, fun ks pm hp X hX => h7 (ks, pm) (hkw ((x, ks), pm) (look_mem hp)) X hX⟩
  gx := ⟨B.gx.xn, B.gx.xm, B.gx.xf, B.gx.xi⟩
  rs1 := B.rs1
  rs0 := B.rs0
end
end Dp
set_option Elab.async false
set_option linter.all false
set_option maxRecDepth 100000
set_option maxHeartbeats 4000000
/-! DpO: from what the top has written to the facts that the readings lean on. -/
namespace Dp
open PySem PySem.Spec PyProof.Rows L2 PySem.HandSPX
section
variable {K : PySem.W.Frag} {h : Heap} {mg : Str → Option Value} {x : Str} {st : Stmt}
theorem def_at (X : K.In h) (G : h.Ns mainGlobals mg) {f : Addr} {od an : Option Addr} {osl : Array (Option Value)} {oc kV doc pm cdv ct : Value}
    (a : PySem.W.nsIn K mainGlobals x = some (some (.ref f))) (l : K.lookup f = some ⟨oc, od, .func (PySem.W.fnOf x x (defArgs st) (defBody st) (defScope st) .none kV doc pm an cdv ct), osl⟩)
    (c : PySem.W.codeIn K cdv x = true) (k : PySem.W.keepIn K (.ref f) = true) : DefAt K mg x st := ⟨f, _, PySem.W.mg_of X G a, fun_mk l c k⟩
/-- the first def within a class -/
def initOf : Stmt → Stmt
  | .ClassDef _ _ _ (s :: _) _ _ _ _ _ _ _ => s
  | s => s
def InitLike (st : Stmt) (fld : Str) : Prop := ∃ p1 p2 q1 q2 q3 q4, defArgs st = initArgs fld p1 p2 ∧ defBody st = initBody fld q1 q2 q3 q4 ∧ defScope st = initScope fld
structure OwnAt (K : PySem.W.Frag) (mg : Str → Option Value) (bm : List Value) (newId : String) (x qual fld : Str) (C : Addr) : Prop where
  own : ∃ fI, OwnCl K mg bm newId x qual fld C fI
  exc : ExcC K C
theorem own_at {bm : List Value} {newId : String} {qual fld : Str} (X : K.In h) (G : h.Ns mainGlobals mg) (hi : InitLike st fld) {C fI N : Addr} {nm q : Str} {bs : List Value} {sn : List Str} {sub : List Value} {ab : Bool} {col : Option Bool} {dd : Option Addr} {k0 k1 k2 k3 k5 : Option Value}
    {od an : Option Addr} {osl : Array (Option Value)} {oc doc pm cdv ct : Value} (aC : PySem.W.nsIn K mainGlobals x = some (some (.ref C))) (xL : K.lookup C = some (excClassObj nm q C N bs bm true sn sub ab col dd k0 k1 k2 k3 k5 newId))
    (sa : PySem.W.findIn K (.ref C) "__setattr__" = some (some (.builtin "object.__setattr__"))) (no : PySem.W.findIn K (.ref C) fld = some none) (iC : PySem.W.findIn K (.ref C) "__init__" = some (some (.ref fI))) (tI : PySem.W.typeIn K (.ref fI) = some (.type "function"))
    (lI : K.lookup fI = some ⟨oc, od, .func (PySem.W.fnOf "__init__" qual (defArgs st) (defBody st) (defScope st) .none .none doc pm an cdv ct), osl⟩) (cI : PySem.W.codeIn K cdv qual = true) (kC : PySem.W.keepIn K (.ref C) = true)
    (bC : PySem.W.subIn K (.ref C) (.type "BaseException") = some true) (tC : PySem.W.typeIn K (.ref C) = some (.type "type")) (ga : PySem.W.findIn K (.ref C) "__getattribute__" = some (some (.builtin "BaseException.__getattribute__"))) (gg : PySem.W.findIn K (.ref C) "__getattr__" = some none)
    (hd : PySem.W.hasDictIn K C = true) (ha : PySem.W.findIn K (.ref C) "__class__" = some (some (.builtin "object.__class__"))) (hn : PySem.W.specialIn K (.builtin "object.__class__") "__get__" = some (some (.builtin "getset_descriptor.__get__"))) (ht : PySem.W.takesIn K (.builtin "object.__class__") = some true)
    (hm : PySem.W.mroIn K C (.type "object") = some true) : OwnAt K mg bm newId x qual fld C := by
  obtain ⟨p1, p2, q1, q2, q3, q4, e1, e2, e3⟩ := hi
  rw [e1, e2, e3] at lI
  exact ⟨⟨fI, PySem.W.mg_of X G aC, ⟨_, _, _, _, _, _, _, _, _, _, _, _, _, _, xL⟩, sa, no, iC, tI, kC, bC, tC, ⟨_, _, _, _, _, _, _, _, p1, p2, q1, q2, q3, q4, lI, cI⟩⟩, ⟨ga, gg, bC, hd, ha, hn, ht, hm⟩⟩
structure PlainAt (K : PySem.W.Frag) (mg : Str → Option Value) (bm : List Value) (newId : String) (x : Str) (C : Addr) : Prop where
  gC : mg x = some (.ref C)
  q : PySem.W.excIn K C bm newId = true
  kC : PySem.W.keepIn K (.ref C) = true
  bC : PySem.W.subIn K (.ref C) (.type "BaseException") = some true
  tC : PySem.W.typeIn K (.ref C) = some (.type "type")
  exc : ExcC K C
theorem plain_at {bm : List Value} {newId : String} (X : K.In h) (G : h.Ns mainGlobals mg) {C : Addr} (aC : PySem.W.nsIn K mainGlobals x = some (some (.ref C))) (q : PySem.W.excIn K C bm newId = true) (kC : PySem.W.keepIn K (.ref C) = true)
    (bC : PySem.W.subIn K (.ref C) (.type "BaseException") = some true) (tC : PySem.W.typeIn K (.ref C) = some (.type "type")) (ga : PySem.W.findIn K (.ref C) "__getattribute__" = some (some (.builtin "BaseException.__getattribute__"))) (gg : PySem.W.findIn K (.ref C) "__getattr__" = some none)
    (hd : PySem.W.hasDictIn K C = true) (ha : PySem.W.findIn K (.ref C) "__class__" = some (some (.builtin "object.__class__"))) (hn : PySem.W.specialIn K (.builtin "object.__class__") "__get__" = some (some (.builtin "getset_descriptor.__get__"))) (ht : PySem.W.takesIn K (.builtin "object.__class__") = some true)
    (hm : PySem.W.mroIn K C (.type "object") = some true) : PlainAt K mg bm newId x C := ⟨PySem.W.mg_of X G aC, q, kC, bC, tC, ⟨ga, gg, bC, hd, ha, hn, ht, hm⟩⟩
theorem xfC_of {C : Addr} (T : ExcC K C) : XfC K C := ⟨T.hg, T.hk, T.hs, T.hd⟩
end
/-! the built-in names -/
theorem boots : ∀ p ∈ [(("len" : Str), Bi.len), ("abs", .abs), ("min", .min), ("max", .max), ("any", .any), ("all", .all), ("isinstance", .isinstance), ("sorted", .sorted), ("int", .int), ("tuple", .tuple), ("list", .list), ("dict", .dict)], bootBuiltins p.1 = some p.2.val := by
  decide +kernel
end Dp
namespace Dp
open PySem PySem.Spec PyProof.Rows L2 PySem.HandSPX
section
variable {P : Program} {w : World} {K : PySem.W.Frag} {mg : Str → Option Value} {x : Str}
def GlF (K : PySem.W.Frag) (mg : Str → Option Value) (e : Str × D) : Prop := ∃ v u, RelV v u ∧ (mg e.1 = some u ∨ (mg e.1 = none ∧ e.1 ≠ "__name__" ∧ bootBuiltins e.1 = some u)) ∧ (e.1 == ("__debug__" : Str)) = false ∧ ∀ ρ H, Rep ⟨K, mg⟩ ρ H e.2 v
theorem gl_str {s : Str} (hd : (x == ("__debug__" : Str)) = false) (h : ∃ t, mg x = some (.str s t)) : GlF K mg (x, .str s) := by
  obtain ⟨t, h⟩ := h
  exact ⟨.str s, .str s t, ⟨t, rfl⟩, .inl h, hd, fun _ _ => rep_str.mpr rfl⟩
theorem gl_int {s : Int} (hd : (x == ("__debug__" : Str)) = false) (h : ∃ t, mg x = some (.int s t)) : GlF K mg (x, .int s) := by
  obtain ⟨t, h⟩ := h
  exact ⟨.int s, .int s t, ⟨t, rfl⟩, .inl h, hd, fun _ _ => rep_int.mpr rfl⟩
theorem gl_ty {n : Ty} (hd : (x == ("__debug__" : Str)) = false) (hn : x ≠ "__name__") (hb : bootBuiltins x = some (.type n.name)) (h : mg x = none) : GlF K mg (x, .ty n) :=
  ⟨.ty n.name, .type n.name, rfl, .inr ⟨h, hn, hb⟩, hd, fun _ _ => rep_ty.mpr rfl⟩
theorem gl_fn {st : Stmt} (hd : (x == ("__debug__" : Str)) = false) (h : DefAt K mg x st) : GlF K mg (x, .fn x) := by
  obtain ⟨a, fd, hm, _⟩ := h
  exact ⟨.ref a, .ref a, rfl, .inl hm, hd, fun _ _ => rep_fn.mpr ⟨a, rfl, hm⟩⟩
def BiF (mg : Str → Option Value) (e : Str × Bi) : Prop := mg e.1 = none ∧ bootBuiltins e.1 = some e.2.val ∧ e.1 ≠ "__name__" ∧ (e.1 == ("__debug__" : Str)) = false
/-- a class of exceptions: where it stands, what it is for isinstance -/
def XcF (K : PySem.W.Frag) (mg : Str → Option Value) (x : Str) : Prop := ∃ C, mg x = some (.ref C) ∧ ExcC K C ∧ (x == ("__debug__" : Str)) = false
def XmF (K : PySem.W.Frag) (mg : Str → Option Value) (e : (Str × Str) × Bool) : Prop := ∀ C C', mg e.1.1 = some (.ref C) → mg e.1.2 = some (.ref C') → PySem.W.exmOne K (.ref C) (.ref C') = some e.2
def XiF (K : PySem.W.Frag) (mg : Str → Option Value) (e : (Str × Str) × Bool) : Prop := ∃ T : String, mg e.1.2 = none ∧ bootBuiltins e.1.2 = some (.type T) ∧ e.1.2 ≠ "__name__" ∧ (e.1.2 == ("__debug__" : Str)) = false ∧ ∀ C, mg e.1.1 = some (.ref C) → ExcC K C ∧ PySem.W.kitOne K (.ref C) (.type T) = some e.2
def XfF (K : PySem.W.Frag) (mg : Str → Option Value) (e : Str × Str) : Prop := ∀ C, mg e.1 = some (.ref C) → ExcC K C ∧ PySem.W.findIn K (.ref C) e.2 = some none
def RsF (P : Program) (w : World) (K : PySem.W.Frag) (mg : Str → Option Value) (e : Str × Option Str) : Prop := match e.2 with
  | some fld => ∃ C, mg e.1 = some (.ref C) ∧ ∀ (X : Cx), X.prog = P → X.w = w → X.K = K → X.mg = mg → Room 0 X.A → ∀ (a : Expr) (p pos : Pos) (ta : TA), Gl X e.1 → PA X [a] ta → plainArgs [a] = true → PMk X (.Call (.Name e.1 p) [a] [] pos) (tMkF C fld ta)
  | none => ∃ C, mg e.1 = some (.ref C) ∧ ∀ (X : Cx), X.prog = P → X.w = w → X.K = K → X.mg = mg → Room 0 X.A → ∀ (p pos : Pos), Gl X e.1 → PMk X (.Call (.Name e.1 p) [] [] pos) (tMk0 C)
theorem contains_mem {α : Type} [BEq α] [LawfulBEq α] {x : α} {l : List α} (h : l.contains x = true) : x ∈ l := by
  simpa using h
theorem base_of {glT : List (Str × D)} {biT : List (Str × Bi)} {frT : List Str} {rsT : List (Str × Option Str)} {xnT : List Str} {xmT xiT : List ((Str × Str) × Bool)} {xfT : List (Str × Str)}
    (h1 : ∀ e ∈ glT, GlF K mg e) (h2 : ∀ e ∈ biT, BiF mg e) (h3 : ∀ x ∈ frT, mg x = none) (h4 : ∀ e ∈ rsT, RsF P w K mg e) (h5 : ∀ x ∈ xnT, XcF K mg x) (h6 : ∀ e ∈ xmT, XmF K mg e ∧ e.1.2 ∈ xnT) (h7 : ∀ e ∈ xfT, XfF K mg e) (h8 : ∀ e ∈ xiT, XiF K mg e) :
    Base P w K mg (fun x => List.lookup x glT) (fun x => List.lookup x biT) (fun x => frT.contains x) (fun x => List.lookup x rsT) (fun x => xnT.contains x) (fun x y => List.lookup (x, y) xmT) (fun x f => xfT.contains (x, f)) (fun x y => List.lookup (x, y) xiT) where
  gl := fun x d h => h1 _ (look_mem h)
  bi := fun x f h => h2 _ (look_mem h)
  fr := fun x h => h3 x (contains_mem h)
  gx := {
    xn := fun x h => by
      obtain ⟨C, a, b, c⟩ := h5 x (contains_mem h)
      exact ⟨.ref C, .inl a, c⟩
    xm := fun cn x b h C cv hC hcv => by
      obtain ⟨q, hx⟩ := h6 _ (look_mem h)
      obtain ⟨C', a, _, _⟩ := h5 x hx
      have e : cv = .ref C' := by
        rcases hcv with z | ⟨z, _⟩
        · rw [a] at z; cases z; rfl
        · rw [a] at z; cases z
      subst e
      exact q C C' hC a
    xf := fun cn f h C hC => by
      obtain ⟨a, b⟩ := h7 _ (contains_mem h) C hC
      exact ⟨xfC_of a, b⟩
    xi := fun cn y b h C hC => by
      obtain ⟨T, a1, a2, a3, a4, a5⟩ := h8 _ (look_mem h)
      obtain ⟨b1, b2⟩ := a5 C hC
      exact ⟨b1, .ty T, .type T, rfl, fun u' r => r, .inr ⟨a1, a2, a3⟩, a4, b2⟩ }
  rs1 := fun x fld h => h4 _ (look_mem h)
  rs0 := fun x h => h4 _ (look_mem h)
theorem rs_one {bm : List Value} {B newId initId : String} {qual fld : Str} {C : Addr} (FB : ExcBaseFacts B newId initId bm) (hps : ∀ self, refuseLoop self "__setattr__" bm = pure ()) (hbo : bm.contains (.type "object") = true) (fo : FldOk fld) (hxd : (x == ("__debug__" : Str)) = false) (T : OwnAt K mg bm newId x qual fld C) : RsF P w K mg (x, some fld) := by
  obtain ⟨fI, O⟩ := T.own
  exact ⟨C, O.gC, fun X e1 e2 e3 e4 hr a p pos ta hg ha hpl => by subst e1 e2 e3 e4; exact pmk_one FB hps hbo fo O hr hxd hg ha hpl⟩
theorem rs_none {bm : List Value} {B newId initId : String} {C : Addr} (FB : ExcBaseFacts B newId initId bm) (hxd : (x == ("__debug__" : Str)) = false) (T : PlainAt K mg bm newId x C) : RsF P w K mg (x, none) :=
  ⟨C, T.gC, fun X e1 e2 e3 e4 hr p pos hg => by subst e1 e2 e3 e4; exact pmk_none FB T.q T.gC T.kC (raises_own T.bC T.tC) hg hxd⟩
theorem xc_own {bm : List Value} {newId : String} {qual fld : Str} {C : Addr} (hxd : (x == ("__debug__" : Str)) = false) (T : OwnAt K mg bm newId x qual fld C) : XcF K mg x := by
  obtain ⟨fI, O⟩ := T.own
  exact ⟨C, O.gC, T.exc, hxd⟩
theorem xc_plain {bm : List Value} {newId : String} {C : Addr} (hxd : (x == ("__debug__" : Str)) = false) (T : PlainAt K mg bm newId x C) : XcF K mg x := ⟨C, T.gC, T.exc, hxd⟩
theorem xf_own {bm : List Value} {newId : String} {qual fld : Str} {C : Addr} (T : OwnAt K mg bm newId x qual fld C) : XfF K mg (x, fld) := fun C' h => by
  obtain ⟨fI, O⟩ := T.own
  have z := O.gC
  rw [h] at z
  cases z
  exact ⟨T.exc, O.no⟩
theorem xm_at {y : Str} {C C' : Addr} {b : Bool} (h1 : mg x = some (.ref C)) (h2 : mg y = some (.ref C')) (h : PySem.W.exmOne K (.ref C) (.ref C') = some b) : XmF K mg ((x, y), b) := fun D D' a1 a2 => by
  rw [h1] at a1
  rw [h2] at a2
  cases a1
  cases a2
  exact h
theorem xi_at {y : Str} {T : String} {C : Addr} {b : Bool} (h1 : mg x = some (.ref C)) (hx : ExcC K C) (hz : mg y = none) (hb : bootBuiltins y = some (.type T)) (hn : y ≠ "__name__") (hd : (y == ("__debug__" : Str)) = false) (h : PySem.W.kitOne K (.ref C) (.type T) = some b) : XiF K mg ((x, y), b) := ⟨T, hz, hb, hn, hd, fun C' a => by
  rw [h1] at a
  cases a
  exact ⟨hx, h⟩⟩
theorem OwnAt.gC {bm : List Value} {newId : String} {qual fld : Str} {C : Addr} (T : OwnAt K mg bm newId x qual fld C) : mg x = some (.ref C) := by
  obtain ⟨fI, O⟩ := T.own
  exact O.gC
theorem OwnAt.tC {bm : List Value} {newId : String} {qual fld : Str} {C : Addr} (T : OwnAt K mg bm newId x qual fld C) : PySem.W.typeIn K (.ref C) = some (.type "type") := by
  obtain ⟨fI, O⟩ := T.own
  exact O.tyC
theorem xm_sub {y : Str} {C C' : Addr} {b : Bool} (h1 : mg x = some (.ref C)) (h2 : mg y = some (.ref C')) (hx : ExcC K C') (ht : PySem.W.typeIn K (.ref C') = some (.type "type")) (h : PySem.W.subIn K (.ref C) (.ref C') = some b) : XmF K mg ((x, y), b) :=
  xm_at h1 h2 (PySem.W.exm_ref hx.hs hx.hd ht h)
theorem kit_sub {C : Addr} {T : String} {b : Bool} (hm : PySem.W.kitMeta T = true) (h : PySem.W.subIn K (.ref C) (.type T) = some b) : PySem.W.kitOne K (.ref C) (.type T) = some b := by
  unfold PySem.W.kitOne
  rw [if_neg (show ¬ ((Value.ref C == Value.type T) = true) from Bool.false_ne_true)]
  show (if PySem.W.kitMeta T = true then PySem.W.subIn K (.ref C) (.type T) else none) = some b
  rw [if_pos hm, h]
end
end Dp
set_option Elab.async false
set_option linter.all false
set_option maxRecDepth 100000
set_option maxHeartbeats 4000000
namespace K00
open PySem PySem.Spec PyProof.Rows L2 Dp
abbrev Fn := List D → Store → Out D
def mYes : BM := fun _ st => .ok true st
/-- the clauses of the k-th try of a def's own rows -/
def hdsAt : Nat → List Stmt → List ExceptHandler
  | _, [] => []
  | 0, .Try _ hs _ _ _ :: _ => hs
  | k + 1, .Try _ _ _ _ _ :: r => hdsAt k r
  | k, _ :: r => hdsAt k r
def topS (i : Nat) : Stmt := PySem.Challenge.pw_wheelmarks_k00_mills_begins_and_settings.main.body.getD i (.Pass ⟨0, 0, 0, 0⟩)
def glT : List (Str × D) := [(⟨#[76, 69, 84, 84, 69, 82, 83]⟩, .str ⟨#[97, 98, 99, 100, 101, 102, 103, 104, 105, 106, 107, 108, 109, 110, 111, 112, 113, 114, 115, 116, 117, 118, 119, 120, 121, 122]⟩), (⟨#[76, 79, 78, 71, 69, 83, 84, 95, 78, 65, 77, 69]⟩, .int 8), (⟨#[105, 110, 116]⟩, .ty .int), (⟨#[115, 116, 114]⟩, .ty .str), (⟨#[116, 117, 112, 108, 101]⟩, .ty .tuple), (⟨#[108, 105, 115, 116]⟩, .ty .list), (⟨#[100, 105, 99, 116]⟩, .ty .dict), (⟨#[98, 111, 111, 108]⟩, .ty .bool), (⟨#[116, 117, 112, 108, 101, 100]⟩, .fn ⟨#[116, 117, 112, 108, 101, 100]⟩), (⟨#[105, 115, 95, 110, 117, 109, 98, 101, 114]⟩, .fn ⟨#[105, 115, 95, 110, 117, 109, 98, 101, 114]⟩), (⟨#[105, 115, 95, 110, 97, 109, 101]⟩, .fn ⟨#[105, 115, 95, 110, 97, 109, 101]⟩), (⟨#[105, 115, 95, 114, 111, 119]⟩, .fn ⟨#[105, 115, 95, 114, 111, 119]⟩), (⟨#[97, 115, 99, 101, 110, 100, 115]⟩, .fn ⟨#[97, 115, 99, 101, 110, 100, 115]⟩), (⟨#[119, 104, 101, 101, 108, 95, 110, 97, 109, 101, 115]⟩, .fn ⟨#[119, 104, 101, 101, 108, 95, 110, 97, 109, 101, 115]⟩), (⟨#[101, 110, 100, 95, 110, 97, 109, 101, 115]⟩, .fn ⟨#[101, 110, 100, 95, 110, 97, 109, 101, 115]⟩), (⟨#[115, 97, 121, 105, 110, 103, 95, 110, 97, 109, 101, 115]⟩, .fn ⟨#[115, 97, 121, 105, 110, 103, 95, 110, 97, 109, 101, 115]⟩), (⟨#[110, 101, 101, 100, 95, 119, 104, 101, 101, 108]⟩, .fn ⟨#[110, 101, 101, 100, 95, 119, 104, 101, 101, 108]⟩), (⟨#[110, 101, 101, 100, 95, 101, 110, 100]⟩, .fn ⟨#[110, 101, 101, 100, 95, 101, 110, 100]⟩), (⟨#[115, 97, 121, 105, 110, 103, 95, 99, 97, 108, 108, 101, 100]⟩, .fn ⟨#[115, 97, 121, 105, 110, 103, 95, 99, 97, 108, 108, 101, 100]⟩), (⟨#[105, 115, 95, 119, 104, 101, 101, 108]⟩, .fn ⟨#[105, 115, 95, 119, 104, 101, 101, 108]⟩), (⟨#[105, 115, 95, 115, 97, 121, 105, 110, 103]⟩, .fn ⟨#[105, 115, 95, 115, 97, 121, 105, 110, 103]⟩), (⟨#[105, 115, 95, 109, 105, 108, 108]⟩, .fn ⟨#[105, 115, 95, 109, 105, 108, 108]⟩), (⟨#[105, 115, 95, 98, 101, 103, 105, 110, 115]⟩, .fn ⟨#[105, 115, 95, 98, 101, 103, 105, 110, 115]⟩), (⟨#[105, 115, 95, 115, 101, 116, 116, 105, 110, 103]⟩, .fn ⟨#[105, 115, 95, 115, 101, 116, 116, 105, 110, 103]⟩), (⟨#[98, 101, 103, 105, 110, 95, 116, 97, 98, 108, 101]⟩, .fn ⟨#[98, 101, 103, 105, 110, 95, 116, 97, 98, 108, 101]⟩), (⟨#[104, 111, 119, 95, 102, 97, 114, 95, 111, 102, 102]⟩, .fn ⟨#[104, 111, 119, 95, 102, 97, 114, 95, 111, 102, 102]⟩), (⟨#[111, 102, 102, 95, 98, 121]⟩, .fn ⟨#[111, 102, 102, 95, 98, 121]⟩), (⟨#[117, 110, 107, 101, 112, 116]⟩, .fn ⟨#[117, 110, 107, 101, 112, 116]⟩), (⟨#[119, 105, 116, 104, 95, 119, 104, 101, 101, 108]⟩, .fn ⟨#[119, 105, 116, 104, 95, 119, 104, 101, 101, 108]⟩), (⟨#[119, 105, 116, 104, 111, 117, 116, 95, 119, 104, 101, 101, 108]⟩, .fn ⟨#[119, 105, 116, 104, 111, 117, 116, 95, 119, 104, 101, 101, 108]⟩), (⟨#[119, 105, 116, 104, 95, 115, 97, 121, 105, 110, 103]⟩, .fn ⟨#[119, 105, 116, 104, 95, 115, 97, 121, 105, 110, 103]⟩), (⟨#[119, 105, 116, 104, 111, 117, 116, 95, 115, 97, 121, 105, 110, 103]⟩, .fn ⟨#[119, 105, 116, 104, 111, 117, 116, 95, 115, 97, 121, 105, 110, 103]⟩), (⟨#[116, 117, 114, 110, 101, 100, 95, 115, 97, 121, 105, 110, 103]⟩, .fn ⟨#[116, 117, 114, 110, 101, 100, 95, 115, 97, 121, 105, 110, 103]⟩), (⟨#[116, 105, 100, 121, 95, 115, 97, 121, 105, 110, 103]⟩, .fn ⟨#[116, 105, 100, 121, 95, 115, 97, 121, 105, 110, 103]⟩), (⟨#[116, 105, 100, 105, 101, 100]⟩, .fn ⟨#[116, 105, 100, 105, 101, 100]⟩), (⟨#[115, 104, 105, 102, 116, 101, 100, 95, 115, 97, 121, 105, 110, 103]⟩, .fn ⟨#[115, 104, 105, 102, 116, 101, 100, 95, 115, 97, 121, 105, 110, 103]⟩), (⟨#[115, 104, 105, 102, 116, 101, 100]⟩, .fn ⟨#[115, 104, 105, 102, 116, 101, 100]⟩), (⟨#[114, 101, 110, 97, 109, 101, 100]⟩, .fn ⟨#[114, 101, 110, 97, 109, 101, 100]⟩), (⟨#[95, 108, 97, 119, 95, 98, 111, 120]⟩, .fn ⟨#[95, 108, 97, 119, 95, 98, 111, 120]⟩), (⟨#[95, 108, 97, 119, 95, 116, 97, 107, 101]⟩, .fn ⟨#[95, 108, 97, 119, 95, 116, 97, 107, 101]⟩), (⟨#[95, 108, 97, 119, 95, 99, 101, 108, 108, 115]⟩, .fn ⟨#[95, 108, 97, 119, 95, 99, 101, 108, 108, 115]⟩), (⟨#[95, 108, 97, 119, 95, 112, 105, 99, 107]⟩, .fn ⟨#[95, 108, 97, 119, 95, 112, 105, 99, 107]⟩), (⟨#[95, 108, 97, 119, 95, 115, 97, 109, 101]⟩, .fn ⟨#[95, 108, 97, 119, 95, 115, 97, 109, 101]⟩), (⟨#[95, 108, 97, 119, 95, 108, 105, 115, 116, 115]⟩, .fn ⟨#[95, 108, 97, 119, 95, 108, 105, 115, 116, 115]⟩), (⟨#[95, 108, 97, 119, 95, 104, 97, 108, 102]⟩, .fn ⟨#[95, 108, 97, 119, 95, 104, 97, 108, 102]⟩), (⟨#[95, 108, 97, 119, 95, 119, 104, 101, 101, 108, 115]⟩, .fn ⟨#[95, 108, 97, 119, 95, 119, 104, 101, 101, 108, 115]⟩), (⟨#[95, 108, 97, 119, 95, 107, 101, 112, 116]⟩, .fn ⟨#[95, 108, 97, 119, 95, 107, 101, 112, 116]⟩), (⟨#[95, 108, 97, 119, 95, 98, 101, 103, 105, 110, 115]⟩, .fn ⟨#[95, 108, 97, 119, 95, 98, 101, 103, 105, 110, 115]⟩), (⟨#[95, 108, 97, 119, 95, 116, 97, 98, 108, 101]⟩, .fn ⟨#[95, 108, 97, 119, 95, 116, 97, 98, 108, 101]⟩), (⟨#[95, 108, 97, 119, 95, 107, 105, 116]⟩, .fn ⟨#[95, 108, 97, 119, 95, 107, 105, 116]⟩), (⟨#[95, 108, 97, 119, 95, 112, 97, 105, 114]⟩, .fn ⟨#[95, 108, 97, 119, 95, 112, 97, 105, 114]⟩), (⟨#[95, 108, 97, 119, 95, 104, 101, 97, 114, 100]⟩, .fn ⟨#[95, 108, 97, 119, 95, 104, 101, 97, 114, 100]⟩), (⟨#[95, 108, 97, 119, 95, 98, 121, 95, 104, 97, 110, 100, 95, 114, 105, 103, 104, 116]⟩, .fn ⟨#[95, 108, 97, 119, 95, 98, 121, 95, 104, 97, 110, 100, 95, 114, 105, 103, 104, 116]⟩), (⟨#[95, 108, 97, 119, 95, 98, 101, 103, 105, 110, 115, 95, 114, 105, 103, 104, 116]⟩, .fn ⟨#[95, 108, 97, 119, 95, 98, 101, 103, 105, 110, 115, 95, 114, 105, 103, 104, 116]⟩), (⟨#[95, 108, 97, 119, 95, 111, 102, 102, 95, 114, 105, 103, 104, 116]⟩, .fn ⟨#[95, 108, 97, 119, 95, 111, 102, 102, 95, 114, 105, 103, 104, 116]⟩), (⟨#[95, 108, 97, 119, 95, 114, 101, 102, 117, 115, 97, 108]⟩, .fn ⟨#[95, 108, 97, 119, 95, 114, 101, 102, 117, 115, 97, 108]⟩), (⟨#[95, 108, 97, 119, 95, 99, 104, 97, 110, 103, 101, 100, 95, 114, 105, 103, 104, 116]⟩, .fn ⟨#[95, 108, 97, 119, 95, 99, 104, 97, 110, 103, 101, 100, 95, 114, 105, 103, 104, 116]⟩), (⟨#[95, 108, 97, 119, 95, 114, 101, 102, 117, 115, 101, 100, 95, 114, 105, 103, 104, 116]⟩, .fn ⟨#[95, 108, 97, 119, 95, 114, 101, 102, 117, 115, 101, 100, 95, 114, 105, 103, 104, 116]⟩), (⟨#[95, 108, 97, 119, 95, 115, 111, 102, 116, 95, 114, 105, 103, 104, 116]⟩, .fn ⟨#[95, 108, 97, 119, 95, 115, 111, 102, 116, 95, 114, 105, 103, 104, 116]⟩), (⟨#[95, 108, 97, 119, 95, 114, 105, 103, 104, 116]⟩, .fn ⟨#[95, 108, 97, 119, 95, 114, 105, 103, 104, 116]⟩), (⟨#[108, 97, 119]⟩, .fn ⟨#[108, 97, 119]⟩)]
def biT : List (Str × Bi) := [(⟨#[97, 98, 115]⟩, .abs), (⟨#[97, 108, 108]⟩, .all), (⟨#[97, 110, 121]⟩, .any), (⟨#[100, 105, 99, 116]⟩, .dict), (⟨#[105, 110, 116]⟩, .int), (⟨#[105, 115, 105, 110, 115, 116, 97, 110, 99, 101]⟩, .isinstance), (⟨#[108, 101, 110]⟩, .len), (⟨#[108, 105, 115, 116]⟩, .list), (⟨#[109, 97, 120]⟩, .max), (⟨#[109, 105, 110]⟩, .min), (⟨#[115, 111, 114, 116, 101, 100]⟩, .sorted), (⟨#[116, 117, 112, 108, 101]⟩, .tuple)]
def frT : List Str := [⟨#[101, 110, 117, 109, 101, 114, 97, 116, 101]⟩, ⟨#[114, 97, 110, 103, 101]⟩, ⟨#[122, 105, 112]⟩]
def rsT : List (Str × Option Str) := [(⟨#[78, 111, 87, 104, 101, 101, 108]⟩, some ⟨#[110, 97, 109, 101]⟩), (⟨#[78, 111, 83, 97, 121, 105, 110, 103]⟩, some ⟨#[110, 97, 109, 101]⟩), (⟨#[84, 119, 105, 99, 101]⟩, some ⟨#[110, 97, 109, 101]⟩), (⟨#[85, 110, 102, 105, 116]⟩, none)]
def xnT : List Str := [⟨#[78, 111, 87, 104, 101, 101, 108]⟩, ⟨#[78, 111, 83, 97, 121, 105, 110, 103]⟩, ⟨#[84, 119, 105, 99, 101]⟩, ⟨#[85, 110, 102, 105, 116]⟩]
def xmT : List ((Str × Str) × Bool) := [((⟨#[78, 111, 87, 104, 101, 101, 108]⟩, ⟨#[78, 111, 87, 104, 101, 101, 108]⟩), true), ((⟨#[78, 111, 87, 104, 101, 101, 108]⟩, ⟨#[78, 111, 83, 97, 121, 105, 110, 103]⟩), false), ((⟨#[78, 111, 87, 104, 101, 101, 108]⟩, ⟨#[84, 119, 105, 99, 101]⟩), false), ((⟨#[78, 111, 87, 104, 101, 101, 108]⟩, ⟨#[85, 110, 102, 105, 116]⟩), false), ((⟨#[78, 111, 83, 97, 121, 105, 110, 103]⟩, ⟨#[78, 111, 87, 104, 101, 101, 108]⟩), false), ((⟨#[78, 111, 83, 97, 121, 105, 110, 103]⟩, ⟨#[78, 111, 83, 97, 121, 105, 110, 103]⟩), true), ((⟨#[78, 111, 83, 97, 121, 105, 110, 103]⟩, ⟨#[84, 119, 105, 99, 101]⟩), false), ((⟨#[78, 111, 83, 97, 121, 105, 110, 103]⟩, ⟨#[85, 110, 102, 105, 116]⟩), false), ((⟨#[84, 119, 105, 99, 101]⟩, ⟨#[78, 111, 87, 104, 101, 101, 108]⟩), false), ((⟨#[84, 119, 105, 99, 101]⟩, ⟨#[78, 111, 83, 97, 121, 105, 110, 103]⟩), false), ((⟨#[84, 119, 105, 99, 101]⟩, ⟨#[84, 119, 105, 99, 101]⟩), true), ((⟨#[84, 119, 105, 99, 101]⟩, ⟨#[85, 110, 102, 105, 116]⟩), false), ((⟨#[85, 110, 102, 105, 116]⟩, ⟨#[78, 111, 87, 104, 101, 101, 108]⟩), false), ((⟨#[85, 110, 102, 105, 116]⟩, ⟨#[78, 111, 83, 97, 121, 105, 110, 103]⟩), false), ((⟨#[85, 110, 102, 105, 116]⟩, ⟨#[84, 119, 105, 99, 101]⟩), false), ((⟨#[85, 110, 102, 105, 116]⟩, ⟨#[85, 110, 102, 105, 116]⟩), true)]
def xfT : List (Str × Str) := [(⟨#[78, 111, 87, 104, 101, 101, 108]⟩, ⟨#[110, 97, 109, 101]⟩), (⟨#[78, 111, 83, 97, 121, 105, 110, 103]⟩, ⟨#[110, 97, 109, 101]⟩), (⟨#[84, 119, 105, 99, 101]⟩, ⟨#[110, 97, 109, 101]⟩)]
def xiT : List ((Str × Str) × Bool) := [((⟨#[78, 111, 87, 104, 101, 101, 108]⟩, ⟨#[76, 111, 111, 107, 117, 112, 69, 114, 114, 111, 114]⟩), true), ((⟨#[78, 111, 87, 104, 101, 101, 108]⟩, ⟨#[86, 97, 108, 117, 101, 69, 114, 114, 111, 114]⟩), false), ((⟨#[78, 111, 83, 97, 121, 105, 110, 103]⟩, ⟨#[76, 111, 111, 107, 117, 112, 69, 114, 114, 111, 114]⟩), true), ((⟨#[78, 111, 83, 97, 121, 105, 110, 103]⟩, ⟨#[86, 97, 108, 117, 101, 69, 114, 114, 111, 114]⟩), false), ((⟨#[84, 119, 105, 99, 101]⟩, ⟨#[76, 111, 111, 107, 117, 112, 69, 114, 114, 111, 114]⟩), false), ((⟨#[84, 119, 105, 99, 101]⟩, ⟨#[86, 97, 108, 117, 101, 69, 114, 114, 111, 114]⟩), true), ((⟨#[85, 110, 102, 105, 116]⟩, ⟨#[76, 111, 111, 107, 117, 112, 69, 114, 114, 111, 114]⟩), false), ((⟨#[85, 110, 102, 105, 116]⟩, ⟨#[86, 97, 108, 117, 101, 69, 114, 114, 111, 114]⟩), true)]
def mkC (N : List Str) (cl : List (Str × Nat × Fn)) (kw : List ((Str × List Str) × List Nat)) : Cfg := ⟨N, fun x => List.lookup x glT, fun x => List.lookup x biT, fun x => frT.contains x, fun x => List.lookup x cl, fun x ks => List.lookup (x, ks) kw, fun x => List.lookup x rsT, fun x => xnT.contains x, fun x y => List.lookup (x, y) xmT, fun x f => xfT.contains (x, f), fun x y => List.lookup (x, y) xiT⟩
abbrev ntupled : List Str := [⟨#[118, 97, 108, 117, 101]⟩, ⟨#[112, 97, 114, 116]⟩]
def ctupled (g_tupled : Fn) : Cfg := mkC ntupled [(⟨#[116, 117, 112, 108, 101, 100]⟩, 1, g_tupled)] []
def btupled (g_tupled : Fn) : StM := (sSeq (sIf (mTru (mCallB .isinstance (mCons (mSlot 0) (mCons (mTup (mCons (mC (.ty .list)) (mCons (mC (.ty .tuple)) mNil))) mNil)))) (sRet (mCallB .tuple (mCons (mLc (mSrc (mSlot 0)) [1] (.one 1) mYes (mCall 1 g_tupled (mCons (mSlot 1) mNil))) mNil))) sNil)
  (sRet (mSlot 0)))
theorem rtupled (g_tupled : Fn) : sv (ctupled g_tupled) (ev (ctupled g_tupled) 90) ⟨defScope (topS 8), fun _ => true⟩ 90 (defBody (topS 8)) = btupled g_tupled := by rfl
abbrev nis_number : List Str := [⟨#[116, 104, 105, 110, 103]⟩]
def cis_number : Cfg := mkC nis_number [] []
def bis_number : StM := (sRet (mAnd (mCallB .isinstance (mCons (mSlot 0) (mCons (mC (.ty .int)) mNil))) (mNot (mCallB .isinstance (mCons (mSlot 0) (mCons (mC (.ty .bool)) mNil))))))
theorem ris_number : sv (cis_number) (ev (cis_number) 90) ⟨defScope (topS 9), fun _ => true⟩ 90 (defBody (topS 9)) = bis_number := by rfl
abbrev nis_name : List Str := [⟨#[116, 104, 105, 110, 103]⟩, ⟨#[108, 101, 116, 116, 101, 114]⟩]
def cis_name : Cfg := mkC nis_name [] []
def bis_name : StM := (sSeq (sIf (mOrB (mNotB (mTru (mCallB .isinstance (mCons (mSlot 0) (mCons (mC (.ty .str)) mNil))))) (mNotB (asB (mChain .LtE .LtE (mC (.int 1)) (mCallB .len (mCons (mSlot 0) mNil)) (mC (.int 8)))))) (sRet (mC (.bl false))) sNil)
  (sRet (mCallB .all (mCons (mLc (mSrc (mSlot 0)) [1] (.one 1) mYes (mCmp .In (mSlot 1) (mC (.str ⟨#[97, 98, 99, 100, 101, 102, 103, 104, 105, 106, 107, 108, 109, 110, 111, 112, 113, 114, 115, 116, 117, 118, 119, 120, 121, 122]⟩)))) mNil))))
theorem ris_name : sv (cis_name) (ev (cis_name) 90) ⟨defScope (topS 10), fun _ => true⟩ 90 (defBody (topS 10)) = bis_name := by rfl
abbrev nis_row : List Str := [⟨#[116, 104, 105, 110, 103]⟩, ⟨#[108, 101, 110, 103, 116, 104]⟩]
def cis_row : Cfg := mkC nis_row [] []
def bis_row : StM := (sRet (mAnd (mCallB .isinstance (mCons (mSlot 0) (mCons (mC (.ty .tuple)) mNil))) (mCmp .Eq (mCallB .len (mCons (mSlot 0) mNil)) (mSlot 1))))
theorem ris_row : sv (cis_row) (ev (cis_row) 90) ⟨defScope (topS 11), fun _ => true⟩ 90 (defBody (topS 11)) = bis_row := by rfl
abbrev nascends : List Str := [⟨#[116, 104, 105, 110, 103, 115]⟩, ⟨#[97, 116]⟩]
def cascends : Cfg := mkC nascends [] []
def bascends : StM := (sRet (mCallB .all (mCons (mLc (mRange (mCons (mBin .Sub (mCallB .len (mCons (mSlot 0) mNil)) (mC (.int 1))) mNil)) [1] (.one 1) mYes (mCmp .Lt (mIx (mSlot 0) (mSlot 1)) (mIx (mSlot 0) (mBin .Add (mSlot 1) (mC (.int 1)))))) mNil)))
theorem rascends : sv (cascends) (ev (cascends) 90) ⟨defScope (topS 12), fun _ => true⟩ 90 (defBody (topS 12)) = bascends := by rfl
abbrev nwheel_names : List Str := [⟨#[109, 105, 108, 108]⟩, ⟨#[119, 104, 101, 101, 108]⟩]
def cwheel_names : Cfg := mkC nwheel_names [] []
def bwheel_names : StM := (sRet (mLc (mSrc (mIx (mSlot 0) (mC (.int 0)))) [1] (.one 1) mYes (mIx (mSlot 1) (mC (.int 0)))))
theorem rwheel_names : sv (cwheel_names) (ev (cwheel_names) 90) ⟨defScope (topS 13), fun _ => true⟩ 90 (defBody (topS 13)) = bwheel_names := by rfl
abbrev nend_names : List Str := [⟨#[109, 105, 108, 108]⟩]
def cend_names (g_wheel_names : Fn) : Cfg := mkC nend_names [(⟨#[119, 104, 101, 101, 108, 95, 110, 97, 109, 101, 115]⟩, 1, g_wheel_names)] []
def bend_names (g_wheel_names : Fn) : StM := (sRet (mLst (mCons (mC (.str ⟨#[]⟩)) (mStar (mCall 1 g_wheel_names (mCons (mSlot 0) mNil)) mNil))))
theorem rend_names (g_wheel_names : Fn) : sv (cend_names g_wheel_names) (ev (cend_names g_wheel_names) 90) ⟨defScope (topS 14), fun _ => true⟩ 90 (defBody (topS 14)) = bend_names g_wheel_names := by rfl
abbrev nsaying_names : List Str := [⟨#[109, 105, 108, 108]⟩, ⟨#[115, 97, 121, 105, 110, 103]⟩]
def csaying_names : Cfg := mkC nsaying_names [] []
def bsaying_names : StM := (sRet (mLc (mSrc (mIx (mSlot 0) (mC (.int 1)))) [1] (.one 1) mYes (mIx (mSlot 1) (mC (.int 0)))))
theorem rsaying_names : sv (csaying_names) (ev (csaying_names) 90) ⟨defScope (topS 15), fun _ => true⟩ 90 (defBody (topS 15)) = bsaying_names := by rfl
abbrev nneed_wheel : List Str := [⟨#[109, 105, 108, 108]⟩, ⟨#[110, 97, 109, 101]⟩]
def cneed_wheel (g_wheel_names : Fn) : Cfg := mkC nneed_wheel [(⟨#[119, 104, 101, 101, 108, 95, 110, 97, 109, 101, 115]⟩, 1, g_wheel_names)] []
def bneed_wheel (g_wheel_names : Fn) : StM := (sIf (asB (mCmp .NotIn (mSlot 1) (mCall 1 g_wheel_names (mCons (mSlot 0) mNil)))) (sRaise1 ⟨#[78, 111, 87, 104, 101, 101, 108]⟩ ⟨#[110, 97, 109, 101]⟩ (mCons (mSlot 1) mNil)) sNil)
theorem rneed_wheel (g_wheel_names : Fn) : sv (cneed_wheel g_wheel_names) (ev (cneed_wheel g_wheel_names) 90) ⟨defScope (topS 16), fun _ => true⟩ 90 (defBody (topS 16)) = bneed_wheel g_wheel_names := by rfl
abbrev nneed_end : List Str := [⟨#[109, 105, 108, 108]⟩, ⟨#[110, 97, 109, 101]⟩]
def cneed_end (g_end_names : Fn) : Cfg := mkC nneed_end [(⟨#[101, 110, 100, 95, 110, 97, 109, 101, 115]⟩, 1, g_end_names)] []
def bneed_end (g_end_names : Fn) : StM := (sIf (asB (mCmp .NotIn (mSlot 1) (mCall 1 g_end_names (mCons (mSlot 0) mNil)))) (sRaise1 ⟨#[78, 111, 87, 104, 101, 101, 108]⟩ ⟨#[110, 97, 109, 101]⟩ (mCons (mSlot 1) mNil)) sNil)
theorem rneed_end (g_end_names : Fn) : sv (cneed_end g_end_names) (ev (cneed_end g_end_names) 90) ⟨defScope (topS 17), fun _ => true⟩ 90 (defBody (topS 17)) = bneed_end g_end_names := by rfl
abbrev nsaying_called : List Str := [⟨#[109, 105, 108, 108]⟩, ⟨#[110, 97, 109, 101]⟩, ⟨#[115, 97, 121, 105, 110, 103]⟩]
def csaying_called : Cfg := mkC nsaying_called [] []
def bsaying_called : StM := (sSeq (sFor (mSrc (mIx (mSlot 0) (mC (.int 1)))) (.one 2) (sIf (asB (mCmp .Eq (mIx (mSlot 2) (mC (.int 0))) (mSlot 1))) (sRet (mSlot 2)) sNil))
  (sRaise1 ⟨#[78, 111, 83, 97, 121, 105, 110, 103]⟩ ⟨#[110, 97, 109, 101]⟩ (mCons (mSlot 1) mNil)))
theorem rsaying_called : sv (csaying_called) (ev (csaying_called) 90) ⟨defScope (topS 18), fun _ => true⟩ 90 (defBody (topS 18)) = bsaying_called := by rfl
abbrev nis_wheel : List Str := [⟨#[116, 104, 105, 110, 103]⟩]
def cis_wheel (g_is_name : Fn) (g_is_number : Fn) (g_is_row : Fn) : Cfg := mkC nis_wheel [(⟨#[105, 115, 95, 110, 97, 109, 101]⟩, 1, g_is_name), (⟨#[105, 115, 95, 110, 117, 109, 98, 101, 114]⟩, 1, g_is_number), (⟨#[105, 115, 95, 114, 111, 119]⟩, 2, g_is_row)] []
def bis_wheel (g_is_name : Fn) (g_is_number : Fn) (g_is_row : Fn) : StM := (sSeq (sIf (mOrB (mNotB (mTru (mCall 2 g_is_row (mCons (mSlot 0) (mCons (mC (.int 3)) mNil))))) (mNotB (mTru (mCall 1 g_is_name (mCons (mIx (mSlot 0) (mC (.int 0))) mNil))))) (sRet (mC (.bl false))) sNil)
  (sRet (mAnd (mCall 1 g_is_number (mCons (mIx (mSlot 0) (mC (.int 1))) mNil)) (mAnd (mCall 1 g_is_number (mCons (mIx (mSlot 0) (mC (.int 2))) mNil)) (mChain .LtE .LtE (mC (.int 1)) (mIx (mSlot 0) (mC (.int 2))) (mIx (mSlot 0) (mC (.int 1))))))))
theorem ris_wheel (g_is_name : Fn) (g_is_number : Fn) (g_is_row : Fn) : sv (cis_wheel g_is_name g_is_number g_is_row) (ev (cis_wheel g_is_name g_is_number g_is_row) 90) ⟨defScope (topS 20), fun _ => true⟩ 90 (defBody (topS 20)) = bis_wheel g_is_name g_is_number g_is_row := by rfl
abbrev nis_saying : List Str := [⟨#[116, 104, 105, 110, 103]⟩, ⟨#[101, 110, 100, 115]⟩, ⟨#[110, 97, 109, 101]⟩, ⟨#[111, 110, 101]⟩, ⟨#[111, 116, 104, 101, 114]⟩, ⟨#[108, 97, 116, 101]⟩, ⟨#[100, 105, 97, 108]⟩]
def cis_saying (g_is_name : Fn) (g_is_number : Fn) (g_is_row : Fn) : Cfg := mkC nis_saying [(⟨#[105, 115, 95, 110, 97, 109, 101]⟩, 1, g_is_name), (⟨#[105, 115, 95, 110, 117, 109, 98, 101, 114]⟩, 1, g_is_number), (⟨#[105, 115, 95, 114, 111, 119]⟩, 2, g_is_row)] []
def bis_saying (g_is_name : Fn) (g_is_number : Fn) (g_is_row : Fn) : StM := (sSeq (sIf (mNotB (mTru (mCall 2 g_is_row (mCons (mSlot 0) (mCons (mC (.int 5)) mNil))))) (sRet (mC (.bl false))) sNil)
  (sSeq (sAsg (.many [2, 3, 4, 5, 6]) (mSlot 0))
  (sSeq (sIf (mNotB (mAndB (mTru (mCall 1 g_is_name (mCons (mSlot 2) mNil))) (mAndB (mTru (mCallB .isinstance (mCons (mSlot 3) (mCons (mC (.ty .str)) mNil)))) (mTru (mCallB .isinstance (mCons (mSlot 4) (mCons (mC (.ty .str)) mNil))))))) (sRet (mC (.bl false))) sNil)
  (sSeq (sIf (mOrB (asB (mCmp .Eq (mSlot 3) (mSlot 4))) (mOrB (asB (mCmp .NotIn (mSlot 3) (mSlot 1))) (asB (mCmp .NotIn (mSlot 4) (mSlot 1))))) (sRet (mC (.bl false))) sNil)
  (sRet (mAnd (mCall 1 g_is_number (mCons (mSlot 5) mNil)) (mAnd (mCall 1 g_is_number (mCons (mSlot 6) mNil)) (mCmp .GtE (mSlot 6) (mC (.int 0))))))))))
theorem ris_saying (g_is_name : Fn) (g_is_number : Fn) (g_is_row : Fn) : sv (cis_saying g_is_name g_is_number g_is_row) (ev (cis_saying g_is_name g_is_number g_is_row) 90) ⟨defScope (topS 21), fun _ => true⟩ 90 (defBody (topS 21)) = bis_saying g_is_name g_is_number g_is_row := by rfl
abbrev nis_mill : List Str := [⟨#[116, 104, 105, 110, 103]⟩, ⟨#[101, 110, 100, 115]⟩, ⟨#[119, 104, 101, 101, 108, 115]⟩, ⟨#[115, 97, 121, 105, 110, 103, 115]⟩, ⟨#[110, 97, 109, 101]⟩, ⟨#[115, 97, 121, 105, 110, 103]⟩, ⟨#[119, 104, 101, 101, 108]⟩]
def cis_mill (g_ascends : Fn) (g_end_names : Fn) (g_is_row : Fn) (g_is_saying : Fn) (g_is_wheel : Fn) (g_saying_names : Fn) (g_wheel_names : Fn) : Cfg := mkC nis_mill [(⟨#[97, 115, 99, 101, 110, 100, 115]⟩, 1, g_ascends), (⟨#[101, 110, 100, 95, 110, 97, 109, 101, 115]⟩, 1, g_end_names), (⟨#[105, 115, 95, 114, 111, 119]⟩, 2, g_is_row), (⟨#[105, 115, 95, 115, 97, 121, 105, 110, 103]⟩, 2, g_is_saying), (⟨#[105, 115, 95, 119, 104, 101, 101, 108]⟩, 1, g_is_wheel), (⟨#[115, 97, 121, 105, 110, 103, 95, 110, 97, 109, 101, 115]⟩, 1, g_saying_names), (⟨#[119, 104, 101, 101, 108, 95, 110, 97, 109, 101, 115]⟩, 1, g_wheel_names)] []
def bis_mill (g_ascends : Fn) (g_end_names : Fn) (g_is_row : Fn) (g_is_saying : Fn) (g_is_wheel : Fn) (g_saying_names : Fn) (g_wheel_names : Fn) : StM := (sSeq (sIf (mNotB (mTru (mCall 2 g_is_row (mCons (mSlot 0) (mCons (mC (.int 2)) mNil))))) (sRet (mC (.bl false))) sNil)
  (sSeq (sAsg (.many [2, 3]) (mSlot 0))
  (sSeq (sIf (mOrB (mNotB (mTru (mCallB .isinstance (mCons (mSlot 2) (mCons (mC (.ty .tuple)) mNil))))) (mNotB (mTru (mCallB .isinstance (mCons (mSlot 3) (mCons (mC (.ty .tuple)) mNil)))))) (sRet (mC (.bl false))) sNil)
  (sSeq (sIf (mOrB (mNotB (mTru (mCallB .all (mCons (mLc (mSrc (mSlot 2)) [6] (.one 6) mYes (mCall 1 g_is_wheel (mCons (mSlot 6) mNil))) mNil)))) (mNotB (mTru (mCall 1 g_ascends (mCons (mCall 1 g_wheel_names (mCons (mSlot 0) mNil)) mNil))))) (sRet (mC (.bl false))) sNil)
  (sSeq (sAsg (.one 1) (mDc (mSrc (mCall 1 g_end_names (mCons (mSlot 0) mNil))) [4] (.one 4) mYes (mSlot 4) (mC (.bl true))))
  (sSeq (sIf (mNotB (mTru (mCallB .all (mCons (mLc (mSrc (mSlot 3)) [5] (.one 5) mYes (mCall 2 g_is_saying (mCons (mSlot 5) (mCons (mSlot 1) mNil)))) mNil)))) (sRet (mC (.bl false))) sNil)
  (sRet (mCall 1 g_ascends (mCons (mCall 1 g_saying_names (mCons (mSlot 0) mNil)) mNil)))))))))
theorem ris_mill (g_ascends : Fn) (g_end_names : Fn) (g_is_row : Fn) (g_is_saying : Fn) (g_is_wheel : Fn) (g_saying_names : Fn) (g_wheel_names : Fn) : sv (cis_mill g_ascends g_end_names g_is_row g_is_saying g_is_wheel g_saying_names g_wheel_names) (ev (cis_mill g_ascends g_end_names g_is_row g_is_saying g_is_wheel g_saying_names g_wheel_names) 90) ⟨defScope (topS 22), fun _ => true⟩ 90 (defBody (topS 22)) = bis_mill g_ascends g_end_names g_is_row g_is_saying g_is_wheel g_saying_names g_wheel_names := by rfl
abbrev nis_begins : List Str := [⟨#[109, 105, 108, 108]⟩, ⟨#[116, 104, 105, 110, 103]⟩, ⟨#[110, 97, 109, 101, 115]⟩, ⟨#[110, 97, 109, 101]⟩, ⟨#[112, 97, 105, 114]⟩]
def cis_begins (g_is_number : Fn) (g_is_row : Fn) (g_wheel_names : Fn) : Cfg := mkC nis_begins [(⟨#[105, 115, 95, 110, 117, 109, 98, 101, 114]⟩, 1, g_is_number), (⟨#[105, 115, 95, 114, 111, 119]⟩, 2, g_is_row), (⟨#[119, 104, 101, 101, 108, 95, 110, 97, 109, 101, 115]⟩, 1, g_wheel_names)] []
def bis_begins (g_is_number : Fn) (g_is_row : Fn) (g_wheel_names : Fn) : StM := (sSeq (sAsg (.one 2) (mCall 1 g_wheel_names (mCons (mSlot 0) mNil)))
  (sSeq (sIf (mNotB (mTru (mCall 2 g_is_row (mCons (mSlot 1) (mCons (mCallB .len (mCons (mSlot 2) mNil)) mNil))))) (sRet (mC (.bl false))) sNil)
  (sSeq (sFor (mZip (mCons (mSlot 2) (mCons (mSlot 1) mNil))) (.many [3, 4]) (sSeq (sIf (mOrB (mNotB (mTru (mCall 2 g_is_row (mCons (mSlot 4) (mCons (mC (.int 2)) mNil))))) (mNotB (mTru (mCallB .isinstance (mCons (mIx (mSlot 4) (mC (.int 0))) (mCons (mC (.ty .str)) mNil)))))) (sRet (mC (.bl false))) sNil)
  (sIf (mOrB (asB (mCmp .NotEq (mIx (mSlot 4) (mC (.int 0))) (mSlot 3))) (mNotB (mTru (mCall 1 g_is_number (mCons (mIx (mSlot 4) (mC (.int 1))) mNil))))) (sRet (mC (.bl false))) sNil)))
  (sRet (mC (.bl true))))))
theorem ris_begins (g_is_number : Fn) (g_is_row : Fn) (g_wheel_names : Fn) : sv (cis_begins g_is_number g_is_row g_wheel_names) (ev (cis_begins g_is_number g_is_row g_wheel_names) 90) ⟨defScope (topS 23), fun _ => true⟩ 90 (defBody (topS 23)) = bis_begins g_is_number g_is_row g_wheel_names := by rfl
abbrev nis_setting : List Str := [⟨#[109, 105, 108, 108]⟩, ⟨#[116, 104, 105, 110, 103]⟩]
def cis_setting (g_is_begins : Fn) (g_unkept : Fn) : Cfg := mkC nis_setting [(⟨#[105, 115, 95, 98, 101, 103, 105, 110, 115]⟩, 2, g_is_begins), (⟨#[117, 110, 107, 101, 112, 116]⟩, 2, g_unkept)] []
def bis_setting (g_is_begins : Fn) (g_unkept : Fn) : StM := (sRet (mAnd (mCall 2 g_is_begins (mCons (mSlot 0) (mCons (mSlot 1) mNil))) (mCmp .Eq (mCall 2 g_unkept (mCons (mSlot 0) (mCons (mSlot 1) mNil))) (mTup mNil))))
theorem ris_setting (g_is_begins : Fn) (g_unkept : Fn) : sv (cis_setting g_is_begins g_unkept) (ev (cis_setting g_is_begins g_unkept) 90) ⟨defScope (topS 24), fun _ => true⟩ 90 (defBody (topS 24)) = bis_setting g_is_begins g_unkept := by rfl
abbrev nbegin_table : List Str := [⟨#[98, 101, 103, 105, 110, 115]⟩, ⟨#[116, 97, 98, 108, 101]⟩, ⟨#[110, 97, 109, 101]⟩, ⟨#[98, 101, 103, 105, 110]⟩]
def cbegin_table : Cfg := mkC nbegin_table [] []
def bbegin_table : StM := (sSeq (sAsg (.one 1) (mDc (mSrc (mSlot 0)) [2, 3] (.many [2, 3]) mYes (mSlot 2) (mSlot 3)))
  (sSeq (sSub (mC (.int 0)) (mSlot 1) (mC (.str ⟨#[]⟩)))
  (sRet (mSlot 1))))
theorem rbegin_table : sv (cbegin_table) (ev (cbegin_table) 90) ⟨defScope (topS 25), fun _ => true⟩ 90 (defBody (topS 25)) = bbegin_table := by rfl
abbrev nhow_far_off : List Str := [⟨#[115, 97, 121, 105, 110, 103]⟩, ⟨#[116, 97, 98, 108, 101]⟩, ⟨#[102, 97, 114]⟩, ⟨#[95]⟩, ⟨#[111, 110, 101]⟩, ⟨#[111, 116, 104, 101, 114]⟩, ⟨#[108, 97, 116, 101]⟩, ⟨#[100, 105, 97, 108]⟩]
def chow_far_off : Cfg := mkC nhow_far_off [] []
def bhow_far_off : StM := (sSeq (sAsg (.many [3, 4, 5, 6, 7]) (mSlot 0))
  (sSeq (sAsg (.one 2) (mBin .Sub (mBin .Sub (mIx (mSlot 1) (mSlot 5)) (mIx (mSlot 1) (mSlot 4))) (mSlot 6)))
  (sRet (mIf (asB (mCmp .Eq (mSlot 7) (mC (.int 0)))) (mSlot 2) (mBin .Mod (mSlot 2) (mSlot 7))))))
theorem rhow_far_off : sv (chow_far_off) (ev (chow_far_off) 90) ⟨defScope (topS 26), fun _ => true⟩ 90 (defBody (topS 26)) = bhow_far_off := by rfl
abbrev noff_by : List Str := [⟨#[109, 105, 108, 108]⟩, ⟨#[98, 101, 103, 105, 110, 115]⟩, ⟨#[110, 97, 109, 101]⟩]
def coff_by (g_begin_table : Fn) (g_how_far_off : Fn) (g_saying_called : Fn) : Cfg := mkC noff_by [(⟨#[98, 101, 103, 105, 110, 95, 116, 97, 98, 108, 101]⟩, 1, g_begin_table), (⟨#[104, 111, 119, 95, 102, 97, 114, 95, 111, 102, 102]⟩, 2, g_how_far_off), (⟨#[115, 97, 121, 105, 110, 103, 95, 99, 97, 108, 108, 101, 100]⟩, 2, g_saying_called)] []
def boff_by (g_begin_table : Fn) (g_how_far_off : Fn) (g_saying_called : Fn) : StM := (sRet (mCall 2 g_how_far_off (mCons (mCall 2 g_saying_called (mCons (mSlot 0) (mCons (mSlot 2) mNil))) (mCons (mCall 1 g_begin_table (mCons (mSlot 1) mNil)) mNil))))
theorem roff_by (g_begin_table : Fn) (g_how_far_off : Fn) (g_saying_called : Fn) : sv (coff_by g_begin_table g_how_far_off g_saying_called) (ev (coff_by g_begin_table g_how_far_off g_saying_called) 90) ⟨defScope (topS 27), fun _ => true⟩ 90 (defBody (topS 27)) = boff_by g_begin_table g_how_far_off g_saying_called := by rfl
abbrev nunkept : List Str := [⟨#[109, 105, 108, 108]⟩, ⟨#[98, 101, 103, 105, 110, 115]⟩, ⟨#[116, 97, 98, 108, 101]⟩, ⟨#[115, 97, 121, 105, 110, 103]⟩]
def cunkept (g_begin_table : Fn) (g_how_far_off : Fn) : Cfg := mkC nunkept [(⟨#[98, 101, 103, 105, 110, 95, 116, 97, 98, 108, 101]⟩, 1, g_begin_table), (⟨#[104, 111, 119, 95, 102, 97, 114, 95, 111, 102, 102]⟩, 2, g_how_far_off)] []
def bunkept (g_begin_table : Fn) (g_how_far_off : Fn) : StM := (sSeq (sAsg (.one 2) (mCall 1 g_begin_table (mCons (mSlot 1) mNil)))
  (sRet (mCallB .tuple (mCons (mLc (mSrc (mIx (mSlot 0) (mC (.int 1)))) [3] (.one 3) (asB (mCmp .NotEq (mCall 2 g_how_far_off (mCons (mSlot 3) (mCons (mSlot 2) mNil))) (mC (.int 0)))) (mIx (mSlot 3) (mC (.int 0)))) mNil))))
theorem runkept (g_begin_table : Fn) (g_how_far_off : Fn) : sv (cunkept g_begin_table g_how_far_off) (ev (cunkept g_begin_table g_how_far_off) 90) ⟨defScope (topS 28), fun _ => true⟩ 90 (defBody (topS 28)) = bunkept g_begin_table g_how_far_off := by rfl
abbrev nwith_wheel : List Str := [⟨#[109, 105, 108, 108]⟩, ⟨#[119, 104, 101, 101, 108]⟩, ⟨#[119, 104, 101, 101, 108, 115]⟩, ⟨#[115, 97, 121, 105, 110, 103, 115]⟩]
def cwith_wheel (g_tupled : Fn) (g_wheel_names : Fn) : Cfg := mkC nwith_wheel [(⟨#[116, 117, 112, 108, 101, 100]⟩, 1, g_tupled), (⟨#[119, 104, 101, 101, 108, 95, 110, 97, 109, 101, 115]⟩, 1, g_wheel_names)] []
def bwith_wheel (g_tupled : Fn) (g_wheel_names : Fn) : StM := (sSeq (sAsg (.many [2, 3]) (mCall 1 g_tupled (mCons (mSlot 0) mNil)))
  (sSeq (sIf (asB (mCmp .In (mIx (mSlot 1) (mC (.int 0))) (mCall 1 g_wheel_names (mCons (mSlot 0) mNil)))) (sRaise1 ⟨#[84, 119, 105, 99, 101]⟩ ⟨#[110, 97, 109, 101]⟩ (mCons (mIx (mSlot 1) (mC (.int 0))) mNil)) sNil)
  (sRet (mTup (mCons (mCallB .tuple (mCons (mCallB .sorted (mCons (mLst (mStar (mSlot 2) (mCons (mCall 1 g_tupled (mCons (mSlot 1) mNil)) mNil))) mNil)) mNil)) (mCons (mSlot 3) mNil))))))
theorem rwith_wheel (g_tupled : Fn) (g_wheel_names : Fn) : sv (cwith_wheel g_tupled g_wheel_names) (ev (cwith_wheel g_tupled g_wheel_names) 90) ⟨defScope (topS 29), fun _ => true⟩ 90 (defBody (topS 29)) = bwith_wheel g_tupled g_wheel_names := by rfl
abbrev nwithout_wheel : List Str := [⟨#[109, 105, 108, 108]⟩, ⟨#[110, 97, 109, 101]⟩, ⟨#[119, 104, 101, 101, 108, 115]⟩, ⟨#[115, 97, 121, 105, 110, 103, 115]⟩, ⟨#[95]⟩, ⟨#[111, 110, 101]⟩, ⟨#[111, 116, 104, 101, 114]⟩, ⟨#[119, 104, 101, 101, 108]⟩]
def cwithout_wheel (g_need_wheel : Fn) (g_tupled : Fn) : Cfg := mkC nwithout_wheel [(⟨#[110, 101, 101, 100, 95, 119, 104, 101, 101, 108]⟩, 2, g_need_wheel), (⟨#[116, 117, 112, 108, 101, 100]⟩, 1, g_tupled)] []
def bwithout_wheel (g_need_wheel : Fn) (g_tupled : Fn) : StM := (sSeq (sDrop (mCall 2 g_need_wheel (mCons (mSlot 0) (mCons (mSlot 1) mNil))))
  (sSeq (sAsg (.many [2, 3]) (mCall 1 g_tupled (mCons (mSlot 0) mNil)))
  (sSeq (sIf (mTru (mCallB .any (mCons (mLc (mSrc (mSlot 3)) [4, 5, 6] (.many [4, 5, 6, 4, 4]) mYes (mCmp .In (mSlot 1) (mTup (mCons (mSlot 5) (mCons (mSlot 6) mNil))))) mNil))) (sRaise0 ⟨#[85, 110, 102, 105, 116]⟩) sNil)
  (sRet (mTup (mCons (mCallB .tuple (mCons (mLc (mSrc (mSlot 2)) [7] (.one 7) (asB (mCmp .NotEq (mIx (mSlot 7) (mC (.int 0))) (mSlot 1))) (mSlot 7)) mNil)) (mCons (mSlot 3) mNil)))))))
theorem rwithout_wheel (g_need_wheel : Fn) (g_tupled : Fn) : sv (cwithout_wheel g_need_wheel g_tupled) (ev (cwithout_wheel g_need_wheel g_tupled) 90) ⟨defScope (topS 30), fun _ => true⟩ 90 (defBody (topS 30)) = bwithout_wheel g_need_wheel g_tupled := by rfl
abbrev nwith_saying : List Str := [⟨#[109, 105, 108, 108]⟩, ⟨#[115, 97, 121, 105, 110, 103]⟩, ⟨#[119, 104, 101, 101, 108, 115]⟩, ⟨#[115, 97, 121, 105, 110, 103, 115]⟩, ⟨#[110, 97, 109, 101]⟩, ⟨#[111, 110, 101]⟩, ⟨#[111, 116, 104, 101, 114]⟩, ⟨#[95]⟩]
def cwith_saying (g_need_end : Fn) (g_saying_names : Fn) (g_tupled : Fn) : Cfg := mkC nwith_saying [(⟨#[110, 101, 101, 100, 95, 101, 110, 100]⟩, 2, g_need_end), (⟨#[115, 97, 121, 105, 110, 103, 95, 110, 97, 109, 101, 115]⟩, 1, g_saying_names), (⟨#[116, 117, 112, 108, 101, 100]⟩, 1, g_tupled)] []
def bwith_saying (g_need_end : Fn) (g_saying_names : Fn) (g_tupled : Fn) : StM := (sSeq (sAsg (.many [2, 3]) (mCall 1 g_tupled (mCons (mSlot 0) mNil)))
  (sSeq (sAsg (.many [4, 5, 6, 7, 7]) (mSlot 1))
  (sSeq (sDrop (mCall 2 g_need_end (mCons (mSlot 0) (mCons (mSlot 5) mNil))))
  (sSeq (sDrop (mCall 2 g_need_end (mCons (mSlot 0) (mCons (mSlot 6) mNil))))
  (sSeq (sIf (asB (mCmp .In (mSlot 4) (mCall 1 g_saying_names (mCons (mSlot 0) mNil)))) (sRaise1 ⟨#[84, 119, 105, 99, 101]⟩ ⟨#[110, 97, 109, 101]⟩ (mCons (mSlot 4) mNil)) sNil)
  (sSeq (sIf (asB (mCmp .Eq (mSlot 5) (mSlot 6))) (sRaise0 ⟨#[85, 110, 102, 105, 116]⟩) sNil)
  (sRet (mTup (mCons (mSlot 2) (mCons (mCallB .tuple (mCons (mCallB .sorted (mCons (mLst (mStar (mSlot 3) (mCons (mCall 1 g_tupled (mCons (mSlot 1) mNil)) mNil))) mNil)) mNil)) mNil))))))))))
theorem rwith_saying (g_need_end : Fn) (g_saying_names : Fn) (g_tupled : Fn) : sv (cwith_saying g_need_end g_saying_names g_tupled) (ev (cwith_saying g_need_end g_saying_names g_tupled) 90) ⟨defScope (topS 31), fun _ => true⟩ 90 (defBody (topS 31)) = bwith_saying g_need_end g_saying_names g_tupled := by rfl
abbrev nwithout_saying : List Str := [⟨#[109, 105, 108, 108]⟩, ⟨#[110, 97, 109, 101]⟩, ⟨#[103, 111, 110, 101]⟩, ⟨#[119, 104, 101, 101, 108, 115]⟩, ⟨#[115, 97, 121, 105, 110, 103, 115]⟩, ⟨#[115, 97, 121, 105, 110, 103]⟩]
def cwithout_saying (g_saying_called : Fn) (g_tupled : Fn) : Cfg := mkC nwithout_saying [(⟨#[115, 97, 121, 105, 110, 103, 95, 99, 97, 108, 108, 101, 100]⟩, 2, g_saying_called), (⟨#[116, 117, 112, 108, 101, 100]⟩, 1, g_tupled)] []
def bwithout_saying (g_saying_called : Fn) (g_tupled : Fn) : StM := (sSeq (sAsg (.one 2) (mCall 2 g_saying_called (mCons (mSlot 0) (mCons (mSlot 1) mNil))))
  (sSeq (sAsg (.many [3, 4]) (mCall 1 g_tupled (mCons (mSlot 0) mNil)))
  (sRet (mTup (mCons (mSlot 3) (mCons (mCallB .tuple (mCons (mLc (mSrc (mSlot 4)) [5] (.one 5) (asB (mCmp .NotEq (mIx (mSlot 5) (mC (.int 0))) (mIx (mSlot 2) (mC (.int 0))))) (mSlot 5)) mNil)) mNil))))))
theorem rwithout_saying (g_saying_called : Fn) (g_tupled : Fn) : sv (cwithout_saying g_saying_called g_tupled) (ev (cwithout_saying g_saying_called g_tupled) 90) ⟨defScope (topS 32), fun _ => true⟩ 90 (defBody (topS 32)) = bwithout_saying g_saying_called g_tupled := by rfl
abbrev nturned_saying : List Str := [⟨#[109, 105, 108, 108]⟩, ⟨#[110, 97, 109, 101]⟩, ⟨#[116, 117, 114, 110, 101, 100]⟩, ⟨#[95]⟩, ⟨#[111, 110, 101]⟩, ⟨#[111, 116, 104, 101, 114]⟩, ⟨#[108, 97, 116, 101]⟩, ⟨#[100, 105, 97, 108]⟩, ⟨#[119, 104, 101, 101, 108, 115]⟩, ⟨#[115, 97, 121, 105, 110, 103, 115]⟩, ⟨#[115, 97, 121, 105, 110, 103]⟩]
def cturned_saying (g_saying_called : Fn) (g_tupled : Fn) : Cfg := mkC nturned_saying [(⟨#[115, 97, 121, 105, 110, 103, 95, 99, 97, 108, 108, 101, 100]⟩, 2, g_saying_called), (⟨#[116, 117, 112, 108, 101, 100]⟩, 1, g_tupled)] []
def bturned_saying (g_saying_called : Fn) (g_tupled : Fn) : StM := (sSeq (sAsg (.many [3, 4, 5, 6, 7]) (mCall 2 g_saying_called (mCons (mSlot 0) (mCons (mSlot 1) mNil))))
  (sSeq (sAsg (.many [8, 9]) (mCall 1 g_tupled (mCons (mSlot 0) mNil)))
  (sSeq (sAsg (.one 2) (mTup (mCons (mSlot 1) (mCons (mSlot 5) (mCons (mSlot 4) (mCons (mUn .USub (mSlot 6)) (mCons (mSlot 7) mNil)))))))
  (sRet (mTup (mCons (mSlot 8) (mCons (mCallB .tuple (mCons (mLc (mSrc (mSlot 9)) [10] (.one 10) mYes (mIf (asB (mCmp .Eq (mIx (mSlot 10) (mC (.int 0))) (mSlot 1))) (mSlot 2) (mSlot 10))) mNil)) mNil)))))))
theorem rturned_saying (g_saying_called : Fn) (g_tupled : Fn) : sv (cturned_saying g_saying_called g_tupled) (ev (cturned_saying g_saying_called g_tupled) 90) ⟨defScope (topS 33), fun _ => true⟩ 90 (defBody (topS 33)) = bturned_saying g_saying_called g_tupled := by rfl
abbrev ntidy_saying : List Str := [⟨#[115, 97, 121, 105, 110, 103]⟩, ⟨#[110, 97, 109, 101]⟩, ⟨#[111, 110, 101]⟩, ⟨#[111, 116, 104, 101, 114]⟩, ⟨#[108, 97, 116, 101]⟩, ⟨#[100, 105, 97, 108]⟩]
def ctidy_saying : Cfg := mkC ntidy_saying [] []
def btidy_saying : StM := (sSeq (sAsg (.many [1, 2, 3, 4, 5]) (mSlot 0))
  (sRet (mTup (mCons (mSlot 1) (mCons (mSlot 2) (mCons (mSlot 3) (mCons (mIf (asB (mCmp .Eq (mSlot 5) (mC (.int 0)))) (mSlot 4) (mBin .Mod (mSlot 4) (mSlot 5))) (mCons (mSlot 5) mNil))))))))
theorem rtidy_saying : sv (ctidy_saying) (ev (ctidy_saying) 90) ⟨defScope (topS 34), fun _ => true⟩ 90 (defBody (topS 34)) = btidy_saying := by rfl
abbrev ntidied : List Str := [⟨#[109, 105, 108, 108]⟩, ⟨#[119, 104, 101, 101, 108, 115]⟩, ⟨#[115, 97, 121, 105, 110, 103, 115]⟩, ⟨#[115, 97, 121, 105, 110, 103]⟩]
def ctidied (g_tidy_saying : Fn) (g_tupled : Fn) : Cfg := mkC ntidied [(⟨#[116, 105, 100, 121, 95, 115, 97, 121, 105, 110, 103]⟩, 1, g_tidy_saying), (⟨#[116, 117, 112, 108, 101, 100]⟩, 1, g_tupled)] []
def btidied (g_tidy_saying : Fn) (g_tupled : Fn) : StM := (sSeq (sAsg (.many [1, 2]) (mCall 1 g_tupled (mCons (mSlot 0) mNil)))
  (sRet (mTup (mCons (mSlot 1) (mCons (mCallB .tuple (mCons (mLc (mSrc (mSlot 2)) [3] (.one 3) mYes (mCall 1 g_tidy_saying (mCons (mSlot 3) mNil))) mNil)) mNil)))))
theorem rtidied (g_tidy_saying : Fn) (g_tupled : Fn) : sv (ctidied g_tidy_saying g_tupled) (ev (ctidied g_tidy_saying g_tupled) 90) ⟨defScope (topS 35), fun _ => true⟩ 90 (defBody (topS 35)) = btidied g_tidy_saying g_tupled := by rfl
abbrev nshifted_saying : List Str := [⟨#[115, 97, 121, 105, 110, 103]⟩, ⟨#[119, 104, 101, 101, 108]⟩, ⟨#[116, 105, 99, 107, 115]⟩, ⟨#[110, 97, 109, 101]⟩, ⟨#[111, 110, 101]⟩, ⟨#[111, 116, 104, 101, 114]⟩, ⟨#[108, 97, 116, 101]⟩, ⟨#[100, 105, 97, 108]⟩]
def cshifted_saying : Cfg := mkC nshifted_saying [] []
def bshifted_saying : StM := (sSeq (sAsg (.many [3, 4, 5, 6, 7]) (mSlot 0))
  (sSeq (sIf (asB (mCmp .Eq (mSlot 5) (mSlot 1))) (sRet (mTup (mCons (mSlot 3) (mCons (mSlot 4) (mCons (mSlot 5) (mCons (mBin .Add (mSlot 6) (mSlot 2)) (mCons (mSlot 7) mNil))))))) sNil)
  (sSeq (sIf (asB (mCmp .Eq (mSlot 4) (mSlot 1))) (sRet (mTup (mCons (mSlot 3) (mCons (mSlot 4) (mCons (mSlot 5) (mCons (mBin .Sub (mSlot 6) (mSlot 2)) (mCons (mSlot 7) mNil))))))) sNil)
  (sRet (mSlot 0)))))
theorem rshifted_saying : sv (cshifted_saying) (ev (cshifted_saying) 90) ⟨defScope (topS 36), fun _ => true⟩ 90 (defBody (topS 36)) = bshifted_saying := by rfl
abbrev nshifted : List Str := [⟨#[109, 105, 108, 108]⟩, ⟨#[110, 97, 109, 101]⟩, ⟨#[116, 105, 99, 107, 115]⟩, ⟨#[119, 104, 101, 101, 108, 115]⟩, ⟨#[115, 97, 121, 105, 110, 103, 115]⟩, ⟨#[115, 97, 121, 105, 110, 103]⟩]
def cshifted (g_need_wheel : Fn) (g_shifted_saying : Fn) (g_tupled : Fn) : Cfg := mkC nshifted [(⟨#[110, 101, 101, 100, 95, 119, 104, 101, 101, 108]⟩, 2, g_need_wheel), (⟨#[115, 104, 105, 102, 116, 101, 100, 95, 115, 97, 121, 105, 110, 103]⟩, 3, g_shifted_saying), (⟨#[116, 117, 112, 108, 101, 100]⟩, 1, g_tupled)] []
def bshifted (g_need_wheel : Fn) (g_shifted_saying : Fn) (g_tupled : Fn) : StM := (sSeq (sDrop (mCall 2 g_need_wheel (mCons (mSlot 0) (mCons (mSlot 1) mNil))))
  (sSeq (sAsg (.many [3, 4]) (mCall 1 g_tupled (mCons (mSlot 0) mNil)))
  (sRet (mTup (mCons (mSlot 3) (mCons (mCallB .tuple (mCons (mLc (mSrc (mSlot 4)) [5] (.one 5) mYes (mCall 3 g_shifted_saying (mCons (mSlot 5) (mCons (mSlot 1) (mCons (mSlot 2) mNil))))) mNil)) mNil))))))
theorem rshifted (g_need_wheel : Fn) (g_shifted_saying : Fn) (g_tupled : Fn) : sv (cshifted g_need_wheel g_shifted_saying g_tupled) (ev (cshifted g_need_wheel g_shifted_saying g_tupled) 90) ⟨defScope (topS 37), fun _ => true⟩ 90 (defBody (topS 37)) = bshifted g_need_wheel g_shifted_saying g_tupled := by rfl
abbrev nrenamed : List Str := [⟨#[109, 105, 108, 108]⟩, ⟨#[112, 97, 105, 114, 115]⟩, ⟨#[119, 111, 114, 100, 115]⟩, ⟨#[110, 97, 109, 101, 100]⟩, ⟨#[116, 111, 108, 100]⟩, ⟨#[110, 97, 109, 101]⟩, ⟨#[95]⟩, ⟨#[119, 111, 114, 100]⟩, ⟨#[119, 104, 101, 101, 108, 115]⟩, ⟨#[115, 97, 121, 105, 110, 103, 115]⟩, ⟨#[97, 104, 101, 97, 100]⟩, ⟨#[98, 101, 104, 105, 110, 100]⟩, ⟨#[111, 110, 101]⟩, ⟨#[111, 116, 104, 101, 114]⟩, ⟨#[108, 97, 116, 101]⟩, ⟨#[100, 105, 97, 108]⟩, ⟨#[116, 117, 114, 110]⟩, ⟨#[115, 104, 111, 119, 110]⟩]
def crenamed (g_end_names : Fn) (g_need_wheel : Fn) (g_tupled : Fn) : Cfg := mkC nrenamed [(⟨#[101, 110, 100, 95, 110, 97, 109, 101, 115]⟩, 1, g_end_names), (⟨#[110, 101, 101, 100, 95, 119, 104, 101, 101, 108]⟩, 2, g_need_wheel), (⟨#[116, 117, 112, 108, 101, 100]⟩, 1, g_tupled)] []
def brenamed (g_end_names : Fn) (g_need_wheel : Fn) (g_tupled : Fn) : StM := (sSeq (sFor (mSrc (mSlot 1)) (.many [5, 6]) (sDrop (mCall 2 g_need_wheel (mCons (mSlot 0) (mCons (mSlot 5) mNil)))))
  (sSeq (sAsg (.one 2) (mDc (mSrc (mCall 1 g_end_names (mCons (mSlot 0) mNil))) [5] (.one 5) mYes (mSlot 5) (mSlot 5)))
  (sSeq (sFor (mSrc (mSlot 1)) (.many [5, 7]) (sSub (mSlot 7) (mSlot 2) (mSlot 5)))
  (sSeq (sAsg (.many [8, 9]) (mCall 1 g_tupled (mCons (mSlot 0) mNil)))
  (sSeq (sAsg (.one 3) (mCallB .sorted (mCons (mLc (mSrc (mSlot 8)) [5, 16, 17] (.many [5, 16, 17]) mYes (mTup (mCons (mIx (mSlot 2) (mSlot 5)) (mCons (mSlot 16) (mCons (mSlot 17) mNil))))) mNil)))
  (sSeq (sFor (mZip (mCons (mSlot 3) (mCons (mSl (mSlot 3) (mPart (mC (.int 1))) mNoPart) mNil))) (.many [10, 11]) (sIf (asB (mCmp .Eq (mIx (mSlot 10) (mC (.int 0))) (mIx (mSlot 11) (mC (.int 0))))) (sRaise1 ⟨#[84, 119, 105, 99, 101]⟩ ⟨#[110, 97, 109, 101]⟩ (mCons (mIx (mSlot 11) (mC (.int 0))) mNil)) sNil))
  (sSeq (sAsg (.one 4) (mLc (mSrc (mSlot 9)) [5, 12, 13, 14, 15] (.many [5, 12, 13, 14, 15]) mYes (mTup (mCons (mSlot 5) (mCons (mIx (mSlot 2) (mSlot 12)) (mCons (mIx (mSlot 2) (mSlot 13)) (mCons (mSlot 14) (mCons (mSlot 15) mNil))))))))
  (sRet (mTup (mCons (mCallB .tuple (mCons (mSlot 3) mNil)) (mCons (mCallB .tuple (mCons (mSlot 4) mNil)) mNil)))))))))))
theorem rrenamed (g_end_names : Fn) (g_need_wheel : Fn) (g_tupled : Fn) : sv (crenamed g_end_names g_need_wheel g_tupled) (ev (crenamed g_end_names g_need_wheel g_tupled) 90) ⟨defScope (topS 38), fun _ => true⟩ 90 (defBody (topS 38)) = brenamed g_end_names g_need_wheel g_tupled := by rfl
abbrev n_law_box : List Str := [⟨#[95, 108, 97, 119, 95, 115, 99, 114, 105, 112, 116]⟩, ⟨#[95, 108, 97, 119, 95, 107]⟩, ⟨#[95, 108, 97, 119, 95, 99, 101, 108, 108]⟩]
def c_law_box : Cfg := mkC n_law_box [] []
def b_law_box : StM := (sSeq (sAsg (.one 2) (mIf (asB (mCmp .Lt (mSlot 1) (mCallB .len (mCons (mSlot 0) mNil)))) (mIx (mSlot 0) (mSlot 1)) (mC (.int 0))))
  (sRet (mLst (mCons (mBin .Mult (mCallB .abs (mCons (mSlot 2) mNil)) (mCallB .int (mCons (mCmp .GtE (mCallB .abs (mCons (mSlot 2) mNil)) (mBin .Pow (mC (.int 10)) (mC (.int 18)))) mNil))) (mCons (mBin .Add (mBin .Add (mBin .Mod (mCallB .int (mCons (mSlot 2) mNil)) (mC (.int 2305843009213693951))) (mBin .Mult (mC (.int 39373)) (mSlot 1))) (mC (.int 92800))) (mCons (mC (.int 0)) mNil))))))
theorem r_law_box : sv (c_law_box) (ev (c_law_box) 90) ⟨defScope (topS 40), fun _ => true⟩ 90 (defBody (topS 40)) = b_law_box := by rfl
abbrev n_law_take : List Str := [⟨#[95, 108, 97, 119, 95, 116, 117, 98]⟩, ⟨#[95, 108, 97, 119, 95, 116, 111, 112, 95, 116, 111]⟩, ⟨#[95, 108, 97, 119, 95, 111, 110, 99, 101]⟩, ⟨#[95, 108, 97, 119, 95, 111, 100, 100]⟩, ⟨#[95, 108, 97, 119, 95, 116, 119, 105, 99, 101]⟩, ⟨#[95, 108, 97, 119, 95, 100, 114, 97, 119, 110]⟩]
def c_law_take : Cfg := mkC n_law_take [] []
def b_law_take : StM := (sSeq (sIf (asB (mCmp .Gt (mIx (mSlot 0) (mC (.int 0))) (mC (.int 0)))) (sSeq (sAsg (.one 5) (mBin .Mod (mCallB .int (mCons (mIx (mSlot 0) (mC (.int 0))) mNil)) (mSlot 1)))
  (sSeq (sSub (mBin .FloorDiv (mIx (mSlot 0) (mC (.int 0))) (mSlot 1)) (mSlot 0) (mC (.int 0)))
  (sRet (mSlot 5)))) sNil)
  (sSeq (sSub (mBin .Add (mIx (mSlot 0) (mC (.int 2))) (mC (.int 1))) (mSlot 0) (mC (.int 2)))
  (sSeq (sAsg (.one 2) (mBin .Mod (mCallB .int (mCons (mBin .Mult (mBin .Add (mIx (mSlot 0) (mC (.int 1))) (mBin .Mult (mC (.int 48271)) (mIx (mSlot 0) (mC (.int 2))))) (mBin .Add (mC (.int 39373)) (mIx (mSlot 0) (mC (.int 2))))) mNil)) (mC (.int 2147483647))))
  (sSeq (sAsg (.one 3) (mBin .Add (mBin .Mod (mCallB .int (mCons (mSlot 2) mNil)) (mC (.int 40009))) (mC (.int 7))))
  (sSeq (sAsg (.one 4) (mBin .Mod (mCallB .int (mCons (mBin .Mult (mBin .Add (mBin .Add (mSlot 2) (mIx (mSlot 0) (mC (.int 2)))) (mBin .FloorDiv (mIx (mSlot 0) (mC (.int 1))) (mC (.int 1000003)))) (mSlot 3)) mNil)) (mC (.int 2147483629))))
  (sRet (mBin .Mod (mCallB .int (mCons (mBin .FloorDiv (mBin .Mod (mCallB .int (mCons (mBin .Add (mBin .Mult (mSlot 4) (mC (.int 48271))) (mSlot 2)) mNil)) (mC (.int 2147483587))) (mC (.int 64))) mNil)) (mSlot 1))))))))
theorem r_law_take : sv (c_law_take) (ev (c_law_take) 90) ⟨defScope (topS 41), fun _ => true⟩ 90 (defBody (topS 41)) = b_law_take := by rfl
abbrev n_law_cells : List Str := [⟨#[95, 108, 97, 119, 95, 115, 99, 114, 105, 112, 116]⟩, ⟨#[95, 108, 97, 119, 95, 109, 111, 115, 116, 95, 115, 111]⟩, ⟨#[95, 108, 97, 119, 95, 99, 101, 108, 108, 115, 95, 115, 111]⟩, ⟨#[95, 108, 97, 119, 95, 107]⟩, ⟨#[95, 108, 97, 119, 95, 102, 97, 114, 95, 115, 111]⟩, ⟨#[95, 108, 97, 119, 95, 115, 112, 111, 116, 95, 115, 111]⟩]
def c_law_cells : Cfg := mkC n_law_cells [] []
def b_law_cells : StM := (sSeq (sAsg (.one 2) (mOr (mCallB .list (mCons (mSl (mSlot 0) mNoPart (mPart (mSlot 1))) mNil)) (mLst (mCons (mC (.int 0)) mNil))))
  (sSeq (sFor (mEnum (mCons (mSl (mSlot 0) (mPart (mSlot 1)) (mPart (mC (.int 63)))) mNil)) (.many [3, 4]) (sSeq (sAsg (.one 5) (mBin .Mod (mCallB .int (mCons (mSlot 3) mNil)) (mSlot 1)))
  (sSub (mBin .Add (mIx (mSlot 2) (mSlot 5)) (mBin .Mult (mSlot 4) (mBin .Add (mSlot 3) (mC (.int 2))))) (mSlot 2) (mSlot 5))))
  (sRet (mSlot 2))))
theorem r_law_cells : sv (c_law_cells) (ev (c_law_cells) 90) ⟨defScope (topS 42), fun _ => true⟩ 90 (defBody (topS 42)) = b_law_cells := by rfl
abbrev n_law_pick : List Str := [⟨#[95, 108, 97, 119, 95, 116, 117, 98]⟩, ⟨#[95, 108, 97, 119, 95, 102, 101, 119, 95, 115, 111]⟩, ⟨#[95, 108, 97, 119, 95, 109, 117, 99, 104, 95, 115, 111]⟩, ⟨#[95, 108, 97, 119, 95, 116, 117, 114, 110]⟩, ⟨#[95, 108, 97, 119, 95, 108, 101, 102, 116]⟩, ⟨#[95, 108, 97, 119, 95, 102, 111, 117, 110, 100]⟩]
def c_law_pick (g__law_take : Fn) : Cfg := mkC n_law_pick [(⟨#[95, 108, 97, 119, 95, 116, 97, 107, 101]⟩, 2, g__law_take)] []
def b_law_pick (g__law_take : Fn) : StM := (sSeq (sPar [4, 5] (mCons (mCallB .list (mCons (mSlot 1) mNil)) (mCons (mLst mNil) mNil)))
  (sSeq (sFor (mRange (mCons (mCallB .min (mCons (mSlot 2) (mCons (mCallB .len (mCons (mSlot 4) mNil)) mNil))) mNil)) (.one 3) (sDrop (mMeth .append (mSlot 5) (mCons (mMeth .pop (mSlot 4) (mCons (mCall 2 g__law_take (mCons (mSlot 0) (mCons (mCallB .len (mCons (mSlot 4) mNil)) mNil))) mNil)) mNil))))
  (sRet (mSlot 5))))
theorem r_law_pick (g__law_take : Fn) : sv (c_law_pick g__law_take) (ev (c_law_pick g__law_take) 90) ⟨defScope (topS 43), fun _ => true⟩ 90 (defBody (topS 43)) = b_law_pick g__law_take := by rfl
abbrev n_law_same : List Str := [⟨#[95, 108, 97, 119, 95, 103, 111, 116]⟩, ⟨#[95, 108, 97, 119, 95, 100, 117, 101]⟩, ⟨#[95, 108, 97, 119, 95, 108, 105, 107, 101]⟩, ⟨#[95, 108, 97, 119, 95, 109, 105, 110, 101]⟩, ⟨#[95, 108, 97, 119, 95, 105, 116, 115]⟩]
def c_law_same (g__law_same : Fn) : Cfg := mkC n_law_same [(⟨#[95, 108, 97, 119, 95, 115, 97, 109, 101]⟩, 2, g__law_same)] []
def b_law_same (g__law_same : Fn) : StM := (sSeq (sIf (mTru (mCallB .isinstance (mCons (mSlot 1) (mCons (mTup (mCons (mC (.ty .list)) (mCons (mC (.ty .tuple)) mNil))) mNil)))) (sSeq (sIf (asB (mCmp .NotEq (mCallB .isinstance (mCons (mSlot 0) (mCons (mC (.ty .list)) mNil))) (mCallB .isinstance (mCons (mSlot 1) (mCons (mC (.ty .list)) mNil))))) (sRet (mC (.bl false))) sNil)
  (sSeq (sIf (asB (mCmp .NotEq (mCallB .isinstance (mCons (mSlot 0) (mCons (mC (.ty .tuple)) mNil))) (mCallB .isinstance (mCons (mSlot 1) (mCons (mC (.ty .tuple)) mNil))))) (sRet (mC (.bl false))) sNil)
  (sSeq (sIf (mNotB (asB (mCmp .Eq (mCallB .len (mCons (mSlot 0) mNil)) (mCallB .len (mCons (mSlot 1) mNil))))) (sRet (mC (.bl false))) sNil)
  (sRet (mCallB .all (mCons (mLc (mZip (mCons (mSlot 0) (mCons (mSlot 1) mNil))) [3, 4] (.many [3, 4]) mYes (mCall 2 g__law_same (mCons (mSlot 3) (mCons (mSlot 4) mNil)))) mNil)))))) sNil)
  (sSeq (sIf (mOrB (asB (mCmp .Is (mSlot 1) (mC .non))) (mTru (mCallB .isinstance (mCons (mSlot 1) (mCons (mTup (mCons (mC (.ty .bool)) (mCons (mC (.ty .str)) mNil))) mNil))))) (sSeq (sAsg (.one 2) (mAnd (mCmp .Eq (mCallB .isinstance (mCons (mSlot 0) (mCons (mC (.ty .bool)) mNil))) (mCallB .isinstance (mCons (mSlot 1) (mCons (mC (.ty .bool)) mNil)))) (mCmp .Eq (mCmp .Is (mSlot 0) (mC .non)) (mCmp .Is (mSlot 1) (mC .non)))))
  (sRet (mAnd (mSlot 2) (mCmp .Eq (mSlot 0) (mSlot 1))))) sNil)
  (sRet (mAnd (mCallB .isinstance (mCons (mSlot 0) (mCons (mC (.ty .int)) mNil))) (mAnd (mNot (mCallB .isinstance (mCons (mSlot 0) (mCons (mC (.ty .bool)) mNil)))) (mCmp .Eq (mSlot 0) (mSlot 1)))))))
theorem r_law_same (g__law_same : Fn) : sv (c_law_same g__law_same) (ev (c_law_same g__law_same) 90) ⟨defScope (topS 44), fun _ => true⟩ 90 (defBody (topS 44)) = b_law_same g__law_same := by rfl
abbrev n_law_lists : List Str := [⟨#[95, 108, 97, 119, 95, 109, 97, 116, 116, 101, 114]⟩, ⟨#[95, 108, 97, 119, 95, 98, 105, 116]⟩]
def c_law_lists (g__law_lists : Fn) : Cfg := mkC n_law_lists [(⟨#[95, 108, 97, 119, 95, 108, 105, 115, 116, 115]⟩, 1, g__law_lists)] []
def b_law_lists (g__law_lists : Fn) : StM := (sRet (mIf (mTru (mCallB .isinstance (mCons (mSlot 0) (mCons (mTup (mCons (mC (.ty .list)) (mCons (mC (.ty .tuple)) mNil))) mNil)))) (mLc (mSrc (mSlot 0)) [1] (.one 1) mYes (mCall 1 g__law_lists (mCons (mSlot 1) mNil))) (mSlot 0)))
theorem r_law_lists (g__law_lists : Fn) : sv (c_law_lists g__law_lists) (ev (c_law_lists g__law_lists) 90) ⟨defScope (topS 45), fun _ => true⟩ 90 (defBody (topS 45)) = b_law_lists g__law_lists := by rfl
abbrev n_law_half : List Str := [⟨#[95, 108, 97, 119, 95, 109, 97, 116, 116, 101, 114]⟩, ⟨#[95, 108, 97, 119, 95, 98, 105, 116]⟩]
def c_law_half (g__law_lists : Fn) : Cfg := mkC n_law_half [(⟨#[95, 108, 97, 119, 95, 108, 105, 115, 116, 115]⟩, 1, g__law_lists)] []
def b_law_half (g__law_lists : Fn) : StM := (sRet (mCallB .tuple (mCons (mLc (mSrc (mSlot 0)) [1] (.one 1) mYes (mCall 1 g__law_lists (mCons (mSlot 1) mNil))) mNil)))
theorem r_law_half (g__law_lists : Fn) : sv (c_law_half g__law_lists) (ev (c_law_half g__law_lists) 90) ⟨defScope (topS 46), fun _ => true⟩ 90 (defBody (topS 46)) = b_law_half g__law_lists := by rfl
abbrev n_law_wheels : List Str := [⟨#[95, 108, 97, 119, 95, 116, 117, 98]⟩, ⟨#[95, 108, 97, 119, 95, 109, 111, 115, 116, 95, 115, 111]⟩, ⟨#[95, 108, 97, 119, 95, 109, 97, 110, 121, 95, 115, 111]⟩, ⟨#[95, 108, 97, 119, 95, 102, 111, 117, 110, 100]⟩, ⟨#[95, 108, 97, 119, 95, 116, 97, 103]⟩, ⟨#[95, 108, 97, 119, 95, 114, 111, 117, 110, 100, 95, 115, 111]⟩]
def c_law_wheels (g__law_pick : Fn) (g__law_take : Fn) : Cfg := mkC n_law_wheels [(⟨#[95, 108, 97, 119, 95, 112, 105, 99, 107]⟩, 3, g__law_pick), (⟨#[95, 108, 97, 119, 95, 116, 97, 107, 101]⟩, 2, g__law_take)] []
def b_law_wheels (g__law_pick : Fn) (g__law_take : Fn) : StM := (sSeq (sAsg (.one 2) (mCallB .max (mCons (mC (.int 1)) (mCons (mBin .Sub (mSlot 1) (mIx (mLst (mCons (mC (.int 0)) (mCons (mC (.int 0)) (mCons (mC (.int 0)) (mCons (mC (.int 0)) (mCons (mC (.int 1)) (mCons (mC (.int 2)) mNil))))))) (mCall 2 g__law_take (mCons (mSlot 0) (mCons (mC (.int 6)) mNil))))) mNil))))
  (sSeq (sAsg (.one 3) (mLst mNil))
  (sSeq (sFor (mSrc (mCallB .sorted (mCons (mCall 3 g__law_pick (mCons (mSlot 0) (mCons (mLst (mCons (mC (.str ⟨#[97]⟩)) (mCons (mC (.str ⟨#[97, 98]⟩)) (mCons (mC (.str ⟨#[98]⟩)) (mCons (mC (.str ⟨#[109]⟩)) (mCons (mC (.str ⟨#[120]⟩)) (mCons (mC (.str ⟨#[122, 122]⟩)) (mCons (mC (.str ⟨#[122, 122, 122, 122, 122, 122, 122, 122]⟩)) mNil)))))))) (mCons (mSlot 2) mNil)))) mNil))) (.one 4) (sSeq (sAsg (.one 5) (mIx (mLst (mCons (mC (.int 1)) (mCons (mC (.int 2)) (mCons (mC (.int 3)) (mCons (mC (.int 4)) (mCons (mC (.int 4)) (mCons (mC (.int 5)) (mCons (mC (.int 6)) (mCons (mC (.int 6)) mNil))))))))) (mCall 2 g__law_take (mCons (mSlot 0) (mCons (mC (.int 8)) mNil)))))
  (sDrop (mMeth .append (mSlot 3) (mCons (mTup (mCons (mSlot 4) (mCons (mSlot 5) (mCons (mBin .Add (mC (.int 1)) (mBin .Mult (mCall 2 g__law_take (mCons (mSlot 0) (mCons (mCallB .min (mCons (mSlot 5) (mCons (mC (.int 4)) mNil))) mNil))) (mCall 2 g__law_take (mCons (mSlot 0) (mCons (mC (.int 2)) mNil))))) mNil)))) mNil)))))
  (sRet (mCallB .tuple (mCons (mSlot 3) mNil))))))
theorem r_law_wheels (g__law_pick : Fn) (g__law_take : Fn) : sv (c_law_wheels g__law_pick g__law_take) (ev (c_law_wheels g__law_pick g__law_take) 90) ⟨defScope (topS 47), fun _ => true⟩ 90 (defBody (topS 47)) = b_law_wheels g__law_pick g__law_take := by rfl
abbrev n_law_kept : List Str := [⟨#[95, 108, 97, 119, 95, 116, 97, 98, 108, 101, 95, 104, 101, 114, 101]⟩, ⟨#[95, 108, 97, 119, 95, 115, 97, 121, 105, 110, 103, 95, 115, 111]⟩, ⟨#[95, 108, 97, 119, 95, 111, 102, 102, 95, 115, 111]⟩]
def c_law_kept : Cfg := mkC n_law_kept [] []
def b_law_kept : StM := (sSeq (sAsg (.one 2) (mBin .Sub (mBin .Sub (mIx (mSlot 0) (mIx (mSlot 1) (mC (.int 2)))) (mIx (mSlot 0) (mIx (mSlot 1) (mC (.int 1))))) (mIx (mSlot 1) (mC (.int 3)))))
  (sRet (mIf (asB (mCmp .Eq (mIx (mSlot 1) (mC (.int 4))) (mC (.int 0)))) (mCmp .Eq (mSlot 2) (mC (.int 0))) (mCmp .Eq (mBin .Mod (mSlot 2) (mIx (mSlot 1) (mC (.int 4)))) (mC (.int 0))))))
theorem r_law_kept : sv (c_law_kept) (ev (c_law_kept) 90) ⟨defScope (topS 48), fun _ => true⟩ 90 (defBody (topS 48)) = b_law_kept := by rfl
abbrev n_law_begins : List Str := [⟨#[95, 108, 97, 119, 95, 116, 117, 98]⟩, ⟨#[95, 108, 97, 119, 95, 109, 105, 108, 108, 95, 115, 111]⟩, ⟨#[95, 108, 97, 119, 95, 111, 119, 110]⟩]
def c_law_begins (g__law_take : Fn) : Cfg := mkC n_law_begins [(⟨#[95, 108, 97, 119, 95, 116, 97, 107, 101]⟩, 2, g__law_take)] []
def b_law_begins (g__law_take : Fn) : StM := (sRet (mCallB .tuple (mCons (mLc (mSrc (mIx (mSlot 1) (mC (.int 0)))) [2] (.one 2) mYes (mTup (mCons (mIx (mSlot 2) (mC (.int 0))) (mCons (mBin .Sub (mCall 2 g__law_take (mCons (mSlot 0) (mCons (mC (.int 19)) mNil))) (mC (.int 6))) mNil)))) mNil)))
theorem r_law_begins (g__law_take : Fn) : sv (c_law_begins g__law_take) (ev (c_law_begins g__law_take) 90) ⟨defScope (topS 49), fun _ => true⟩ 90 (defBody (topS 49)) = b_law_begins g__law_take := by rfl
abbrev n_law_table : List Str := [⟨#[95, 108, 97, 119, 95, 98, 101, 103, 105, 110, 115, 95, 115, 111]⟩, ⟨#[95, 108, 97, 119, 95, 111, 119, 110]⟩]
def c_law_table : Cfg := mkC n_law_table [] []
def b_law_table : StM := (sRet (mCallB .dict (mCons (mBin .Add (mLst (mCons (mTup (mCons (mC (.str ⟨#[]⟩)) (mCons (mC (.int 0)) mNil))) mNil)) (mLc (mSrc (mSlot 0)) [1] (.one 1) mYes (mCallB .tuple (mCons (mSlot 1) mNil)))) mNil)))
theorem r_law_table : sv (c_law_table) (ev (c_law_table) 90) ⟨defScope (topS 50), fun _ => true⟩ 90 (defBody (topS 50)) = b_law_table := by rfl
abbrev n_law_kit : List Str := [⟨#[95, 108, 97, 119, 95, 119, 104, 101, 101, 108, 115, 95, 115, 111]⟩]
def c_law_kit : Cfg := mkC n_law_kit [] []
def b_law_kit : StM := (sSeq (sAsg (.one 0) (mTup (mCons (mTup (mCons (mC (.str ⟨#[97]⟩)) (mCons (mC (.int 12)) (mCons (mC (.int 1)) mNil)))) (mCons (mTup (mCons (mC (.str ⟨#[98]⟩)) (mCons (mC (.int 8)) (mCons (mC (.int 2)) mNil)))) (mCons (mTup (mCons (mC (.str ⟨#[99]⟩)) (mCons (mC (.int 6)) (mCons (mC (.int 1)) mNil)))) mNil)))))
  (sRet (mTup (mCons (mSlot 0) (mCons (mTup (mCons (mTup (mCons (mC (.str ⟨#[112]⟩)) (mCons (mC (.str ⟨#[97]⟩)) (mCons (mC (.str ⟨#[98]⟩)) (mCons (mC (.int 3)) (mCons (mC (.int 12)) mNil)))))) (mCons (mTup (mCons (mC (.str ⟨#[113]⟩)) (mCons (mC (.str ⟨#[98]⟩)) (mCons (mC (.str ⟨#[99]⟩)) (mCons (mC (.int 2)) (mCons (mC (.int 4)) mNil)))))) (mCons (mTup (mCons (mC (.str ⟨#[114]⟩)) (mCons (mC (.str ⟨#[97]⟩)) (mCons (mC (.str ⟨#[99]⟩)) (mCons (mC (.int 5)) (mCons (mC (.int 6)) mNil)))))) mNil)))) mNil)))))
theorem r_law_kit : sv (c_law_kit) (ev (c_law_kit) 90) ⟨defScope (topS 51), fun _ => true⟩ 90 (defBody (topS 51)) = b_law_kit := by rfl
abbrev n_law_pair : List Str := [⟨#[95, 108, 97, 119, 95, 116, 117, 98]⟩, ⟨#[95, 108, 97, 119, 95, 109, 111, 115, 116, 95, 115, 111]⟩, ⟨#[95, 108, 97, 119, 95, 109, 97, 110, 121, 95, 115, 111]⟩, ⟨#[95, 108, 97, 119, 95, 119, 104, 101, 101, 108, 115, 95, 115, 111]⟩, ⟨#[95, 108, 97, 119, 95, 116, 97, 98, 108, 101, 95, 104, 101, 114, 101]⟩, ⟨#[95, 108, 97, 119, 95, 110, 97, 109, 101, 115, 95, 115, 111]⟩, ⟨#[95, 108, 97, 119, 95, 116, 97, 103]⟩, ⟨#[95, 108, 97, 119, 95, 98, 101, 103, 105, 110, 115, 95, 115, 111]⟩, ⟨#[95, 108, 97, 119, 95, 115, 112, 111, 116, 115, 95, 115, 111]⟩, ⟨#[95, 108, 97, 119, 95, 102, 111, 117, 110, 100]⟩, ⟨#[95, 108, 97, 119, 95, 100, 105, 97, 108, 95, 115, 111]⟩, ⟨#[95, 108, 97, 119, 95, 108, 97, 116, 101, 95, 115, 111]⟩, ⟨#[95, 108, 97, 119, 95, 110, 101, 97, 114]⟩, ⟨#[95, 108, 97, 119, 95, 102, 97, 114]⟩, ⟨#[95, 108, 97, 119, 95, 111, 119, 110]⟩]
def c_law_pair (g__law_pick : Fn) (g__law_take : Fn) (g__law_wheels : Fn) : Cfg := mkC n_law_pair [(⟨#[95, 108, 97, 119, 95, 112, 105, 99, 107]⟩, 3, g__law_pick), (⟨#[95, 108, 97, 119, 95, 116, 97, 107, 101]⟩, 2, g__law_take), (⟨#[95, 108, 97, 119, 95, 119, 104, 101, 101, 108, 115]⟩, 2, g__law_wheels)] []
def b_law_pair (g__law_pick : Fn) (g__law_take : Fn) (g__law_wheels : Fn) : StM := (sSeq (sAsg (.one 3) (mCall 2 g__law_wheels (mCons (mSlot 0) (mCons (mSlot 1) mNil))))
  (sSeq (sPar [8, 9] (mCons (mBin .Add (mLst (mCons (mC (.str ⟨#[]⟩)) mNil)) (mLc (mSrc (mSlot 3)) [14] (.one 14) mYes (mIx (mSlot 14) (mC (.int 0))))) (mCons (mLst mNil) mNil)))
  (sSeq (sAsg (.one 4) (mCallB .dict (mCons (mLc (mSrc (mSlot 8)) [6] (.one 6) mYes (mTup (mCons (mSlot 6) (mCons (mIf (asB (mCmp .NotEq (mSlot 6) (mC (.str ⟨#[]⟩)))) (mBin .Sub (mCall 2 g__law_take (mCons (mSlot 0) (mCons (mC (.int 13)) mNil))) (mC (.int 4))) (mC (.int 0))) mNil)))) mNil)))
  (sSeq (sAsg (.one 5) (mCall 3 g__law_pick (mCons (mSlot 0) (mCons (mLst (mCons (mC (.str ⟨#[97]⟩)) (mCons (mC (.str ⟨#[99]⟩)) (mCons (mC (.str ⟨#[112]⟩)) (mCons (mC (.str ⟨#[113]⟩)) (mCons (mC (.str ⟨#[114]⟩)) (mCons (mC (.str ⟨#[115]⟩)) (mCons (mC (.str ⟨#[116, 116]⟩)) (mCons (mC (.str ⟨#[120]⟩)) (mCons (mC (.str ⟨#[121, 121, 121, 121, 121, 121, 121, 121]⟩)) mNil)))))))))) (mCons (mSlot 2) mNil)))))
  (sSeq (sFor (mSrc (mSl (mSlot 5) mNoPart (mPart (mCallB .max (mCons (mC (.int 0)) (mCons (mBin .Sub (mSlot 2) (mIx (mLst (mCons (mC (.int 0)) (mCons (mC (.int 0)) (mCons (mC (.int 0)) (mCons (mC (.int 1)) (mCons (mC (.int 1)) (mCons (mC (.int 2)) (mCons (mC (.int 9)) mNil)))))))) (mCall 2 g__law_take (mCons (mSlot 0) (mCons (mC (.int 7)) mNil))))) mNil)))))) (.one 6) (sSeq (sAsg (.many [12, 13]) (mCall 3 g__law_pick (mCons (mSlot 0) (mCons (mSlot 8) (mCons (mC (.int 2)) mNil)))))
  (sSeq (sAsg (.one 10) (mIx (mLst (mCons (mC (.int 0)) (mCons (mC (.int 1)) (mCons (mC (.int 2)) (mCons (mC (.int 2)) (mCons (mC (.int 3)) (mCons (mC (.int 3)) (mCons (mC (.int 4)) (mCons (mC (.int 4)) (mCons (mC (.int 6)) (mCons (mC (.int 6)) mNil))))))))))) (mCall 2 g__law_take (mCons (mSlot 0) (mCons (mC (.int 10)) mNil)))))
  (sSeq (sAsg (.one 11) (mBin .Add (mBin .Sub (mIx (mSlot 4) (mSlot 13)) (mIx (mSlot 4) (mSlot 12))) (mBin .Mult (mSlot 10) (mBin .Sub (mCall 2 g__law_take (mCons (mSlot 0) (mCons (mC (.int 5)) mNil))) (mC (.int 2))))))
  (sDrop (mMeth .append (mSlot 9) (mCons (mTup (mCons (mSlot 6) (mCons (mSlot 12) (mCons (mSlot 13) (mCons (mBin .Add (mSlot 11) (mBin .Mult (mCall 2 g__law_take (mCons (mSlot 0) (mCons (mC (.int 3)) mNil))) (mCallB .int (mCons (mCmp .Eq (mCall 2 g__law_take (mCons (mSlot 0) (mCons (mC (.int 10)) mNil))) (mC (.int 0))) mNil)))) (mCons (mSlot 10) mNil)))))) mNil)))))))
  (sSeq (sAsg (.one 7) (mCallB .tuple (mCons (mLc (mSrc (mSlot 3)) [14] (.one 14) mYes (mTup (mCons (mIx (mSlot 14) (mC (.int 0))) (mCons (mIx (mSlot 4) (mIx (mSlot 14) (mC (.int 0)))) mNil)))) mNil)))
  (sRet (mTup (mCons (mTup (mCons (mSlot 3) (mCons (mCallB .tuple (mCons (mCallB .sorted (mCons (mSlot 9) mNil)) mNil)) mNil))) (mCons (mSlot 7) mNil))))))))))
theorem r_law_pair (g__law_pick : Fn) (g__law_take : Fn) (g__law_wheels : Fn) : sv (c_law_pair g__law_pick g__law_take g__law_wheels) (ev (c_law_pair g__law_pick g__law_take g__law_wheels) 90) ⟨defScope (topS 52), fun _ => true⟩ 90 (defBody (topS 52)) = b_law_pair g__law_pick g__law_take g__law_wheels := by rfl
abbrev n_law_heard : List Str := [⟨#[95, 108, 97, 119, 95, 109, 105, 108, 108, 95, 115, 111]⟩, ⟨#[95, 108, 97, 119, 95, 98, 101, 103, 105, 110, 115, 95, 115, 111]⟩, ⟨#[95, 108, 97, 119, 95, 116, 97, 103]⟩, ⟨#[101, 114, 114, 111, 114]⟩, ⟨#[95, 108, 97, 119, 95, 99, 97, 117, 103, 104, 116]⟩, ⟨#[95, 108, 97, 119, 95, 116, 111, 108, 100, 95, 115, 111]⟩]
def c_law_heard (g_off_by : Fn) : Cfg := mkC n_law_heard [(⟨#[111, 102, 102, 95, 98, 121]⟩, 3, g_off_by)] []
def b_law_heard (g_off_by : Fn) : StM := (sSeq (sAsg (.many [4, 5]) (mTup (mCons (mC .non) (mCons (mC .non) mNil))))
  (sSeq (sTry (c_law_heard g_off_by) ⟨defScope (topS 53), fun _ => true⟩ (sAsg (.one 5) (mCall 3 g_off_by (mCons (mSlot 0) (mCons (mSlot 1) (mCons (mSlot 2) mNil))))) (hdsAt 0 (defBody (topS 53))))
  (sRet (mIf (asB (mCmp .Is (mSlot 4) (mC .non))) (mSlot 5) (mSlot 4)))))
theorem r_law_heard (g_off_by : Fn) : sv (c_law_heard g_off_by) (ev (c_law_heard g_off_by) 90) ⟨defScope (topS 53), fun _ => true⟩ 90 (defBody (topS 53)) = b_law_heard g_off_by := by rfl
abbrev n_law_by_hand_right : List Str := [⟨#[95, 108, 97, 119, 95, 102, 105, 110, 101]⟩, ⟨#[95, 108, 97, 119, 95, 119, 104, 101, 101, 108, 115, 95, 115, 111]⟩, ⟨#[95, 108, 97, 119, 95, 111, 100, 100]⟩, ⟨#[95, 108, 97, 119, 95, 104, 117, 98, 115, 95, 115, 111]⟩, ⟨#[95, 108, 97, 119, 95, 110, 111, 116, 101, 115, 95, 115, 111]⟩, ⟨#[95, 108, 97, 119, 95, 103, 111, 116]⟩, ⟨#[95, 108, 97, 119, 95, 100, 117, 101]⟩, ⟨#[95, 108, 97, 119, 95, 102, 97, 114]⟩, ⟨#[95, 108, 97, 119, 95, 107, 105, 116, 95, 104, 101, 114, 101]⟩, ⟨#[95, 108, 97, 119, 95, 111, 119, 110]⟩, ⟨#[95, 108, 97, 119, 95, 108, 111, 116, 95, 115, 111]⟩, ⟨#[95, 108, 97, 119, 95, 116, 97, 103]⟩]
def c_law_by_hand_right (g__law_begins_right : Fn) (g__law_changed_right : Fn) (g__law_kit : Fn) (g__law_off_right : Fn) (g__law_same : Fn) (g_is_mill : Fn) : Cfg := mkC n_law_by_hand_right [(⟨#[95, 108, 97, 119, 95, 98, 101, 103, 105, 110, 115, 95, 114, 105, 103, 104, 116]⟩, 1, g__law_begins_right), (⟨#[95, 108, 97, 119, 95, 99, 104, 97, 110, 103, 101, 100, 95, 114, 105, 103, 104, 116]⟩, 0, g__law_changed_right), (⟨#[95, 108, 97, 119, 95, 107, 105, 116]⟩, 0, g__law_kit), (⟨#[95, 108, 97, 119, 95, 111, 102, 102, 95, 114, 105, 103, 104, 116]⟩, 2, g__law_off_right), (⟨#[95, 108, 97, 119, 95, 115, 97, 109, 101]⟩, 2, g__law_same), (⟨#[105, 115, 95, 109, 105, 108, 108]⟩, 1, g_is_mill)] []
def b_law_by_hand_right (g__law_begins_right : Fn) (g__law_changed_right : Fn) (g__law_kit : Fn) (g__law_off_right : Fn) (g__law_same : Fn) (g_is_mill : Fn) : StM := (sSeq (sPar [7, 8] (mCons (mBin .Pow (mC (.int 10)) (mC (.int 40))) (mCons (mCall 0 g__law_kit mNil) mNil)))
  (sSeq (sAsg (.one 0) (mLst (mCons (mSlot 8) (mCons (mTup (mCons (mTup mNil) (mCons (mTup mNil) mNil))) (mCons (mTup (mCons (mTup (mCons (mTup (mCons (mC (.str ⟨#[97]⟩)) (mCons (mC (.int 1)) (mCons (mC (.int 1)) mNil)))) mNil)) (mCons (mTup mNil) mNil))) (mCons (mTup (mCons (mTup (mCons (mTup (mCons (mC (.str ⟨#[97]⟩)) (mCons (mSlot 7) (mCons (mC (.int 4)) mNil)))) mNil)) (mCons (mTup (mCons (mTup (mCons (mC (.str ⟨#[97]⟩)) (mCons (mC (.str ⟨#[]⟩)) (mCons (mC (.str ⟨#[97]⟩)) (mCons (mBin .Sub (mC (.int 0)) (mSlot 7)) (mCons (mSlot 7) mNil)))))) mNil)) mNil))) mNil))))))
  (sSeq (sAsg (.one 0) (mBin .Add (mSlot 0) (mLst (mCons (mTup (mCons (mTup (mCons (mTup (mCons (mC (.str ⟨#[97, 98]⟩)) (mCons (mC (.int 3)) (mCons (mC (.int 3)) mNil)))) (mCons (mTup (mCons (mC (.str ⟨#[98]⟩)) (mCons (mC (.int 7)) (mCons (mC (.int 7)) mNil)))) mNil))) (mCons (mTup (mCons (mTup (mCons (mC (.str ⟨#[112]⟩)) (mCons (mC (.str ⟨#[98]⟩)) (mCons (mC (.str ⟨#[97, 98]⟩)) (mCons (mC (.int 0)) (mCons (mC (.int 0)) mNil)))))) (mCons (mTup (mCons (mC (.str ⟨#[113]⟩)) (mCons (mC (.str ⟨#[97, 98]⟩)) (mCons (mC (.str ⟨#[]⟩)) (mCons (mC (.int 5)) (mCons (mC (.int 1)) mNil)))))) (mCons (mTup (mCons (mC (.str ⟨#[122, 122]⟩)) (mCons (mC (.str ⟨#[98]⟩)) (mCons (mC (.str ⟨#[97, 98]⟩)) (mCons (mC (.int 0)) (mCons (mC (.int 0)) mNil)))))) mNil)))) mNil))) mNil))))
  (sSeq (sDrop (mMeth .append (mSlot 0) (mCons (mTup (mCons (mCallB .tuple (mCons (mLc (mSrc (mC (.str ⟨#[97, 98, 99, 100, 101, 102, 103, 104, 105]⟩))) [11] (.one 11) mYes (mTup (mCons (mSlot 11) (mCons (mC (.int 2)) (mCons (mC (.int 1)) mNil))))) mNil)) (mCons (mTup mNil) mNil))) mNil)))
  (sSeq (sDrop (mMeth .append (mSlot 0) (mCons (mTup (mCons (mTup (mCons (mTup (mCons (mC (.str ⟨#[97]⟩)) (mCons (mC (.int 3)) (mCons (mC (.int 1)) mNil)))) mNil)) (mCons (mCallB .tuple (mCons (mLc (mSrc (mC (.str ⟨#[97, 98, 99, 100, 101, 102, 103, 104, 105, 106, 107, 108, 109]⟩))) [11] (.one 11) mYes (mTup (mCons (mSlot 11) (mCons (mC (.str ⟨#[]⟩)) (mCons (mC (.str ⟨#[97]⟩)) (mCons (mC (.int 0)) (mCons (mC (.int 1)) mNil))))))) mNil)) mNil))) mNil)))
  (sSeq (sAsg (.one 1) (mLst (mCons (mTup (mCons (mC (.str ⟨#[97]⟩)) (mCons (mC (.int 0)) (mCons (mC (.int 1)) mNil)))) (mCons (mTup (mCons (mC (.str ⟨#[97]⟩)) (mCons (mC (.int 3)) (mCons (mC (.int 4)) mNil)))) (mCons (mTup (mCons (mC (.str ⟨#[97]⟩)) (mCons (mC (.int 3)) (mCons (mC (.int 0)) mNil)))) (mCons (mTup (mCons (mC (.str ⟨#[97]⟩)) (mCons (mC (.bl true)) (mCons (mC (.int 1)) mNil)))) (mCons (mTup (mCons (mC (.str ⟨#[97]⟩)) (mCons (mC (.int 3)) (mCons (mC (.bl true)) mNil)))) (mCons (mTup (mCons (mC (.str ⟨#[65]⟩)) (mCons (mC (.int 3)) (mCons (mC (.int 1)) mNil)))) (mCons (mTup (mCons (mC (.str ⟨#[]⟩)) (mCons (mC (.int 3)) (mCons (mC (.int 1)) mNil)))) mNil)))))))))
  (sSeq (sAsg (.one 1) (mBin .Add (mSlot 1) (mLst (mCons (mTup (mCons (mC (.str ⟨#[97, 98, 99, 100, 101, 102, 103, 104, 105]⟩)) (mCons (mC (.int 3)) (mCons (mC (.int 1)) mNil)))) (mCons (mTup (mCons (mC (.str ⟨#[97]⟩)) (mCons (mC (.int 3)) mNil))) (mCons (mTup (mCons (mC (.str ⟨#[97]⟩)) (mCons (mC (.int 3)) (mCons (mC (.int 1)) (mCons (mC (.int 1)) mNil))))) (mCons (mLst (mCons (mC (.str ⟨#[97]⟩)) (mCons (mC (.int 3)) (mCons (mC (.int 1)) mNil)))) (mCons (mC (.str ⟨#[97, 98, 99]⟩)) (mCons (mC .non) (mCons (mC (.int 3)) (mCons (mTup (mCons (mC (.int 0)) (mCons (mC (.int 3)) (mCons (mC (.int 1)) mNil)))) mNil)))))))))))
  (sSeq (sAsg (.one 1) (mBin .Add (mSlot 1) (mLst (mCons (mTup (mCons (mC (.str ⟨#[97]⟩)) (mCons (mC .non) (mCons (mC (.int 1)) mNil)))) (mCons (mTup (mCons (mC (.str ⟨#[97]⟩)) (mCons (mC (.int 3)) (mCons (mC (.str ⟨#[98]⟩)) mNil)))) (mCons (mTup (mCons (mC (.str ⟨#[97]⟩)) (mCons (mUn .USub (mC (.int 3))) (mCons (mUn .USub (mC (.int 4))) mNil)))) (mCons (mTup (mCons (mC (.str ⟨#[97, 49]⟩)) (mCons (mC (.int 3)) (mCons (mC (.int 1)) mNil)))) (mCons (mTup (mCons (mTup (mCons (mC (.str ⟨#[97]⟩)) mNil)) (mCons (mC (.int 3)) (mCons (mC (.int 1)) mNil)))) mNil))))))))
  (sSeq (sAsg (.one 1) (mBin .Add (mSlot 1) (mLst (mCons (mTup (mCons (mC (.str ⟨#[123]⟩)) (mCons (mC (.int 3)) (mCons (mC (.int 1)) mNil)))) (mCons (mTup (mCons (mC (.str ⟨#[97, 10]⟩)) (mCons (mC (.int 3)) (mCons (mC (.int 1)) mNil)))) (mCons (mTup (mCons (mC (.str ⟨#[97, 32, 98]⟩)) (mCons (mC (.int 3)) (mCons (mC (.int 1)) mNil)))) mNil))))))
  (sSeq (sAsg (.one 2) (mLc (mSrc (mSlot 1)) [9] (.one 9) mYes (mTup (mCons (mTup (mCons (mSlot 9) mNil)) (mCons (mTup mNil) mNil)))))
  (sSeq (sAsg (.one 3) (mTup (mCons (mTup (mCons (mC (.str ⟨#[97]⟩)) (mCons (mC (.int 3)) (mCons (mC (.int 1)) mNil)))) (mCons (mTup (mCons (mC (.str ⟨#[98]⟩)) (mCons (mC (.int 3)) (mCons (mC (.int 1)) mNil)))) mNil))))
  (sSeq (sAsg (.one 4) (mLst (mCons (mTup (mCons (mC (.str ⟨#[112]⟩)) (mCons (mC (.str ⟨#[97]⟩)) (mCons (mC (.str ⟨#[97]⟩)) (mCons (mC (.int 0)) (mCons (mC (.int 2)) mNil)))))) (mCons (mTup (mCons (mC (.str ⟨#[112]⟩)) (mCons (mC (.str ⟨#[97]⟩)) (mCons (mC (.str ⟨#[122]⟩)) (mCons (mC (.int 0)) (mCons (mC (.int 2)) mNil)))))) (mCons (mTup (mCons (mC (.str ⟨#[112]⟩)) (mCons (mC (.str ⟨#[]⟩)) (mCons (mC (.str ⟨#[]⟩)) (mCons (mC (.int 0)) (mCons (mC (.int 1)) mNil)))))) (mCons (mTup (mCons (mC (.str ⟨#[112]⟩)) (mCons (mC (.str ⟨#[97]⟩)) (mCons (mC (.str ⟨#[]⟩)) (mCons (mC (.int 0)) (mCons (mUn .USub (mC (.int 1))) mNil)))))) mNil))))))
  (sSeq (sAsg (.one 4) (mBin .Add (mSlot 4) (mLst (mCons (mTup (mCons (mC (.str ⟨#[112]⟩)) (mCons (mC (.str ⟨#[97]⟩)) (mCons (mC (.str ⟨#[98]⟩)) (mCons (mC (.bl true)) (mCons (mC (.int 2)) mNil)))))) (mCons (mTup (mCons (mC (.str ⟨#[112]⟩)) (mCons (mC (.str ⟨#[97]⟩)) (mCons (mC (.str ⟨#[98]⟩)) (mCons (mC (.int 0)) (mCons (mC (.bl false)) mNil)))))) (mCons (mTup (mCons (mC (.str ⟨#[112]⟩)) (mCons (mC (.str ⟨#[97]⟩)) (mCons (mC .non) (mCons (mC (.int 0)) (mCons (mC (.int 2)) mNil)))))) (mCons (mTup (mCons (mC (.str ⟨#[]⟩)) (mCons (mC (.str ⟨#[97]⟩)) (mCons (mC (.str ⟨#[98]⟩)) (mCons (mC (.int 0)) (mCons (mC (.int 2)) mNil)))))) mNil)))))))
  (sSeq (sAsg (.one 4) (mBin .Add (mSlot 4) (mLst (mCons (mTup (mCons (mC (.str ⟨#[80]⟩)) (mCons (mC (.str ⟨#[97]⟩)) (mCons (mC (.str ⟨#[98]⟩)) (mCons (mC (.int 0)) (mCons (mC (.int 2)) mNil)))))) (mCons (mTup (mCons (mC (.str ⟨#[112]⟩)) (mCons (mC (.str ⟨#[97]⟩)) (mCons (mC (.str ⟨#[98]⟩)) (mCons (mC (.int 0)) mNil))))) (mCons (mLst (mCons (mC (.str ⟨#[112]⟩)) (mCons (mC (.str ⟨#[97]⟩)) (mCons (mC (.str ⟨#[98]⟩)) (mCons (mC (.int 0)) (mCons (mC (.int 2)) mNil)))))) (mCons (mTup (mCons (mC (.str ⟨#[112]⟩)) (mCons (mC (.str ⟨#[97]⟩)) (mCons (mC (.str ⟨#[98]⟩)) (mCons (mC (.int 0)) (mCons (mC (.int 2)) (mCons (mC (.int 0)) mNil))))))) (mCons (mC .non) mNil))))))))
  (sSeq (sAsg (.one 4) (mBin .Add (mSlot 4) (mLst (mCons (mTup (mCons (mC (.str ⟨#[112]⟩)) (mCons (mTup (mCons (mC (.str ⟨#[97]⟩)) mNil)) (mCons (mC (.str ⟨#[98]⟩)) (mCons (mC (.int 0)) (mCons (mC (.int 2)) mNil)))))) (mCons (mTup (mCons (mC (.str ⟨#[112]⟩)) (mCons (mC (.int 0)) (mCons (mC (.str ⟨#[98]⟩)) (mCons (mC (.int 0)) (mCons (mC (.int 2)) mNil)))))) (mCons (mTup (mCons (mC (.str ⟨#[112]⟩)) (mCons (mC (.str ⟨#[97]⟩)) (mCons (mC (.str ⟨#[98]⟩)) (mCons (mC .non) (mCons (mC (.int 2)) mNil)))))) (mCons (mTup (mCons (mC (.str ⟨#[112]⟩)) (mCons (mC (.str ⟨#[97]⟩)) (mCons (mC (.str ⟨#[98]⟩)) (mCons (mC (.int 0)) (mCons (mC (.str ⟨#[]⟩)) mNil)))))) mNil)))))))
  (sSeq (sAsg (.one 4) (mBin .Add (mSlot 4) (mLst (mCons (mTup (mCons (mC (.str ⟨#[96]⟩)) (mCons (mC (.str ⟨#[97]⟩)) (mCons (mC (.str ⟨#[98]⟩)) (mCons (mC (.int 0)) (mCons (mC (.int 2)) mNil)))))) (mCons (mTup (mCons (mC (.str ⟨#[112, 10]⟩)) (mCons (mC (.str ⟨#[97]⟩)) (mCons (mC (.str ⟨#[98]⟩)) (mCons (mC (.int 0)) (mCons (mC (.int 2)) mNil)))))) mNil)))))
  (sSeq (sAsg (.one 2) (mBin .Add (mSlot 2) (mLc (mSrc (mSlot 4)) [9] (.one 9) mYes (mTup (mCons (mSlot 3) (mCons (mTup (mCons (mSlot 9) mNil)) mNil))))))
  (sSeq (sAsg (.one 2) (mBin .Add (mSlot 2) (mLst (mCons (mC .non) (mCons (mC (.int 0)) (mCons (mC (.bl true)) (mCons (mC (.str ⟨#[]⟩)) (mCons (mC (.str ⟨#[97, 98]⟩)) (mCons (mTup mNil) (mCons (mTup (mCons (mTup mNil) mNil)) (mCons (mTup (mCons (mTup mNil) (mCons (mTup mNil) (mCons (mTup mNil) mNil)))) (mCons (mLst (mCons (mTup mNil) (mCons (mTup mNil) mNil))) (mCons (mTup (mCons (mLst mNil) (mCons (mTup mNil) mNil))) (mCons (mTup (mCons (mTup mNil) (mCons (mLst mNil) mNil))) (mCons (mTup (mCons (mRev (mSlot 3)) (mCons (mTup mNil) mNil))) mNil)))))))))))))))
  (sSeq (sAsg (.one 2) (mBin .Add (mSlot 2) (mLst (mCons (mTup (mCons (mTup (mCons (mTup (mCons (mC (.str ⟨#[97]⟩)) (mCons (mC (.int 3)) (mCons (mC (.int 1)) mNil)))) (mCons (mTup (mCons (mC (.str ⟨#[97]⟩)) (mCons (mC (.int 4)) (mCons (mC (.int 1)) mNil)))) mNil))) (mCons (mTup mNil) mNil))) (mCons (mTup (mCons (mBin .Mult (mTup (mCons (mIx (mSlot 3) (mC (.int 0))) mNil)) (mC (.int 2))) (mCons (mTup mNil) mNil))) (mCons (mTup (mCons (mCallB .list (mCons (mSlot 3) mNil)) (mCons (mTup mNil) mNil))) (mCons (mTup (mCons (mSlot 3) (mCons (mC .non) mNil))) mNil)))))))
  (sSeq (sDrop (mMeth .append (mSlot 2) (mCons (mTup (mCons (mSlot 3) (mCons (mTup (mCons (mTup (mCons (mC (.str ⟨#[113]⟩)) (mCons (mC (.str ⟨#[97]⟩)) (mCons (mC (.str ⟨#[98]⟩)) (mCons (mC (.int 0)) (mCons (mC (.int 2)) mNil)))))) (mCons (mTup (mCons (mC (.str ⟨#[112]⟩)) (mCons (mC (.str ⟨#[97]⟩)) (mCons (mC (.str ⟨#[98]⟩)) (mCons (mC (.int 0)) (mCons (mC (.int 2)) mNil)))))) mNil))) mNil))) mNil)))
  (sSeq (sDrop (mMeth .append (mSlot 2) (mCons (mTup (mCons (mSlot 3) (mCons (mTup (mCons (mTup (mCons (mC (.str ⟨#[112]⟩)) (mCons (mC (.str ⟨#[97]⟩)) (mCons (mC (.str ⟨#[98]⟩)) (mCons (mC (.int 0)) (mCons (mC (.int 2)) mNil)))))) (mCons (mTup (mCons (mC (.str ⟨#[112]⟩)) (mCons (mC (.str ⟨#[98]⟩)) (mCons (mC (.str ⟨#[97]⟩)) (mCons (mC (.int 1)) (mCons (mC (.int 2)) mNil)))))) mNil))) mNil))) mNil)))
  (sSeq (sAsg (.one 5) (mLc (mSrc (mTup (mCons (mSlot 0) (mCons (mSlot 2) mNil)))) [10] (.one 10) mYes (mLc (mSrc (mSlot 10)) [9] (.one 9) mYes (mCall 1 g_is_mill (mCons (mSlot 9) mNil)))))
  (sSeq (sAsg (.one 6) (mLst (mCons (mBin .Mult (mLst (mCons (mC (.bl true)) mNil)) (mC (.int 7))) (mCons (mBin .Mult (mLst (mCons (mC (.bl false)) mNil)) (mCallB .len (mCons (mSlot 2) mNil))) mNil))))
  (sSeq (sIf (mNotB (mTru (mCall 2 g__law_same (mCons (mSlot 5) (mCons (mSlot 6) mNil))))) (sRet (mC (.bl false))) sNil)
  (sRet (mAnd (mCall 1 g__law_begins_right (mCons (mSlot 8) mNil)) (mAnd (mCall 2 g__law_off_right (mCons (mSlot 8) (mCons (mSlot 7) mNil))) (mCall 0 g__law_changed_right mNil))))))))))))))))))))))))))))
theorem r_law_by_hand_right (g__law_begins_right : Fn) (g__law_changed_right : Fn) (g__law_kit : Fn) (g__law_off_right : Fn) (g__law_same : Fn) (g_is_mill : Fn) : sv (c_law_by_hand_right g__law_begins_right g__law_changed_right g__law_kit g__law_off_right g__law_same g_is_mill) (ev (c_law_by_hand_right g__law_begins_right g__law_changed_right g__law_kit g__law_off_right g__law_same g_is_mill) 90) ⟨defScope (topS 54), fun _ => true⟩ 90 (defBody (topS 54)) = b_law_by_hand_right g__law_begins_right g__law_changed_right g__law_kit g__law_off_right g__law_same g_is_mill := by rfl
abbrev n_law_begins_right : List Str := [⟨#[95, 108, 97, 119, 95, 107, 105, 116, 95, 104, 101, 114, 101]⟩, ⟨#[95, 108, 97, 119, 95, 102, 105, 110, 101]⟩, ⟨#[95, 108, 97, 119, 95, 115, 111, 109, 101, 95, 115, 111]⟩, ⟨#[95, 108, 97, 119, 95, 111, 100, 100]⟩, ⟨#[95, 108, 97, 119, 95, 108, 111, 116, 115, 95, 115, 111]⟩, ⟨#[95, 108, 97, 119, 95, 103, 111, 116]⟩, ⟨#[95, 108, 97, 119, 95, 100, 117, 101]⟩, ⟨#[95, 108, 97, 119, 95, 115, 111, 102, 116]⟩, ⟨#[95, 108, 97, 119, 95, 108, 111, 116, 95, 115, 111]⟩, ⟨#[95, 108, 97, 119, 95, 111, 119, 110]⟩]
def c_law_begins_right (g__law_lists : Fn) (g__law_same : Fn) (g_is_begins : Fn) (g_is_mill : Fn) (g_is_setting : Fn) : Cfg := mkC n_law_begins_right [(⟨#[95, 108, 97, 119, 95, 108, 105, 115, 116, 115]⟩, 1, g__law_lists), (⟨#[95, 108, 97, 119, 95, 115, 97, 109, 101]⟩, 2, g__law_same), (⟨#[105, 115, 95, 98, 101, 103, 105, 110, 115]⟩, 2, g_is_begins), (⟨#[105, 115, 95, 109, 105, 108, 108]⟩, 1, g_is_mill), (⟨#[105, 115, 95, 115, 101, 116, 116, 105, 110, 103]⟩, 2, g_is_setting)] [((⟨#[105, 115, 95, 98, 101, 103, 105, 110, 115]⟩, [⟨#[109, 105, 108, 108]⟩, ⟨#[116, 104, 105, 110, 103]⟩]), [0, 1]), ((⟨#[105, 115, 95, 109, 105, 108, 108]⟩, [⟨#[116, 104, 105, 110, 103]⟩]), [0]), ((⟨#[105, 115, 95, 115, 101, 116, 116, 105, 110, 103]⟩, [⟨#[109, 105, 108, 108]⟩, ⟨#[116, 104, 105, 110, 103]⟩]), [0, 1])]
def b_law_begins_right (g__law_lists : Fn) (g__law_same : Fn) (g_is_begins : Fn) (g_is_mill : Fn) (g_is_setting : Fn) : StM := (sSeq (sAsg (.one 1) (mLst (mCons (mTup (mCons (mTup (mCons (mC (.str ⟨#[97]⟩)) (mCons (mC (.int 0)) mNil))) (mCons (mTup (mCons (mC (.str ⟨#[98]⟩)) (mCons (mC (.int 3)) mNil))) (mCons (mTup (mCons (mC (.str ⟨#[99]⟩)) (mCons (mC (.int 5)) mNil))) mNil)))) (mCons (mTup (mCons (mTup (mCons (mC (.str ⟨#[97]⟩)) (mCons (mC (.int 12)) mNil))) (mCons (mTup (mCons (mC (.str ⟨#[98]⟩)) (mCons (mC (.int 3)) mNil))) (mCons (mTup (mCons (mC (.str ⟨#[99]⟩)) (mCons (mC (.int 5)) mNil))) mNil)))) (mCons (mTup (mCons (mTup (mCons (mC (.str ⟨#[97]⟩)) (mCons (mUn .USub (mC (.int 7))) mNil))) (mCons (mTup (mCons (mC (.str ⟨#[98]⟩)) (mCons (mC (.int 8)) mNil))) (mCons (mTup (mCons (mC (.str ⟨#[99]⟩)) (mCons (mC (.int 10)) mNil))) mNil)))) mNil)))))
  (sSeq (sAsg (.one 2) (mLst (mCons (mTup (mCons (mTup (mCons (mC (.str ⟨#[97]⟩)) (mCons (mC (.int 0)) mNil))) (mCons (mTup (mCons (mC (.str ⟨#[98]⟩)) (mCons (mC (.int 3)) mNil))) (mCons (mTup (mCons (mC (.str ⟨#[99]⟩)) (mCons (mC (.int 11)) mNil))) mNil)))) (mCons (mTup (mCons (mTup (mCons (mC (.str ⟨#[97]⟩)) (mCons (mC (.int 0)) mNil))) (mCons (mTup (mCons (mC (.str ⟨#[98]⟩)) (mCons (mC (.int 0)) mNil))) (mCons (mTup (mCons (mC (.str ⟨#[99]⟩)) (mCons (mC (.int 0)) mNil))) mNil)))) (mCons (mTup (mCons (mTup (mCons (mC (.str ⟨#[97]⟩)) (mCons (mC (.int 1)) mNil))) (mCons (mTup (mCons (mC (.str ⟨#[98]⟩)) (mCons (mC (.int 3)) mNil))) (mCons (mTup (mCons (mC (.str ⟨#[99]⟩)) (mCons (mC (.int 5)) mNil))) mNil)))) mNil)))))
  (sSeq (sAsg (.one 3) (mLst (mCons (mTup (mCons (mTup (mCons (mC (.str ⟨#[97]⟩)) (mCons (mC (.int 0)) mNil))) (mCons (mTup (mCons (mC (.str ⟨#[98]⟩)) (mCons (mC (.int 3)) mNil))) mNil))) (mCons (mTup (mCons (mTup (mCons (mC (.str ⟨#[97]⟩)) (mCons (mC (.int 0)) mNil))) (mCons (mTup (mCons (mC (.str ⟨#[98]⟩)) (mCons (mC (.int 3)) mNil))) (mCons (mTup (mCons (mC (.str ⟨#[99]⟩)) (mCons (mC (.int 5)) mNil))) (mCons (mTup (mCons (mC (.str ⟨#[100]⟩)) (mCons (mC (.int 1)) mNil))) mNil))))) (mCons (mTup (mCons (mTup (mCons (mC (.str ⟨#[98]⟩)) (mCons (mC (.int 3)) mNil))) (mCons (mTup (mCons (mC (.str ⟨#[97]⟩)) (mCons (mC (.int 0)) mNil))) (mCons (mTup (mCons (mC (.str ⟨#[99]⟩)) (mCons (mC (.int 5)) mNil))) mNil)))) (mCons (mTup mNil) (mCons (mC .non) (mCons (mC (.int 0)) mNil))))))))
  (sSeq (sAsg (.one 3) (mBin .Add (mSlot 3) (mLst (mCons (mTup (mCons (mTup (mCons (mC (.str ⟨#[]⟩)) (mCons (mC (.int 0)) mNil))) (mCons (mTup (mCons (mC (.str ⟨#[97]⟩)) (mCons (mC (.int 0)) mNil))) (mCons (mTup (mCons (mC (.str ⟨#[98]⟩)) (mCons (mC (.int 3)) mNil))) (mCons (mTup (mCons (mC (.str ⟨#[99]⟩)) (mCons (mC (.int 5)) mNil))) mNil))))) (mCons (mLst (mCons (mTup (mCons (mC (.str ⟨#[97]⟩)) (mCons (mC (.int 0)) mNil))) (mCons (mTup (mCons (mC (.str ⟨#[98]⟩)) (mCons (mC (.int 3)) mNil))) (mCons (mTup (mCons (mC (.str ⟨#[99]⟩)) (mCons (mC (.int 5)) mNil))) mNil)))) (mCons (mTup (mCons (mLst (mCons (mC (.str ⟨#[97]⟩)) (mCons (mC (.int 0)) mNil))) (mCons (mTup (mCons (mC (.str ⟨#[98]⟩)) (mCons (mC (.int 3)) mNil))) (mCons (mTup (mCons (mC (.str ⟨#[99]⟩)) (mCons (mC (.int 5)) mNil))) mNil)))) mNil))))))
  (sSeq (sAsg (.one 3) (mBin .Add (mSlot 3) (mLst (mCons (mTup (mCons (mTup (mCons (mC (.str ⟨#[97]⟩)) (mCons (mC (.bl false)) mNil))) (mCons (mTup (mCons (mC (.str ⟨#[98]⟩)) (mCons (mC (.int 3)) mNil))) (mCons (mTup (mCons (mC (.str ⟨#[99]⟩)) (mCons (mC (.int 5)) mNil))) mNil)))) (mCons (mTup (mCons (mTup (mCons (mC (.str ⟨#[97]⟩)) (mCons (mC (.int 0)) mNil))) (mCons (mTup (mCons (mC (.str ⟨#[98]⟩)) (mCons (mC (.str ⟨#[51]⟩)) mNil))) (mCons (mTup (mCons (mC (.str ⟨#[99]⟩)) (mCons (mC (.int 5)) mNil))) mNil)))) (mCons (mTup (mCons (mTup (mCons (mC (.str ⟨#[97]⟩)) (mCons (mC (.int 0)) mNil))) (mCons (mTup (mCons (mC (.str ⟨#[98]⟩)) (mCons (mC (.int 3)) mNil))) (mCons (mTup (mCons (mC (.str ⟨#[99]⟩)) mNil)) mNil)))) (mCons (mC (.str ⟨#[97, 98, 99]⟩)) mNil)))))))
  (sSeq (sAsg (.one 3) (mBin .Add (mSlot 3) (mLst (mCons (mTup (mCons (mTup (mCons (mC (.int 0)) (mCons (mC (.int 0)) mNil))) (mCons (mTup (mCons (mC (.int 1)) (mCons (mC (.int 3)) mNil))) (mCons (mTup (mCons (mC (.int 2)) (mCons (mC (.int 5)) mNil))) mNil)))) (mCons (mTup (mCons (mC (.str ⟨#[97, 48]⟩)) (mCons (mC (.str ⟨#[98, 51]⟩)) (mCons (mC (.str ⟨#[99, 53]⟩)) mNil)))) (mCons (mTup (mCons (mTup (mCons (mC (.str ⟨#[97]⟩)) (mCons (mC (.int 0)) mNil))) (mCons (mTup (mCons (mC (.str ⟨#[98]⟩)) (mCons (mC (.int 3)) mNil))) (mCons (mTup (mCons (mC (.str ⟨#[99]⟩)) (mCons (mC .non) mNil))) mNil)))) (mCons (mTup (mCons (mTup mNil) (mCons (mTup mNil) (mCons (mTup mNil) mNil)))) (mCons (mC (.bl true)) mNil))))))))
  (sSeq (sDrop (mMeth .append (mSlot 3) (mCons (mTup (mCons (mTup (mCons (mC (.str ⟨#[97]⟩)) (mCons (mC (.int 0)) mNil))) (mCons (mTup (mCons (mC (.str ⟨#[97]⟩)) (mCons (mC (.int 0)) mNil))) (mCons (mTup (mCons (mC (.str ⟨#[98]⟩)) (mCons (mC (.int 3)) mNil))) (mCons (mTup (mCons (mC (.str ⟨#[99]⟩)) (mCons (mC (.int 5)) mNil))) mNil))))) mNil)))
  (sSeq (sAsg (.one 4) (mLst (mCons (mSlot 1) (mCons (mSlot 2) (mCons (mSlot 3) mNil)))))
  (sSeq (sAsg (.one 5) (mLc (mSrc (mSlot 4)) [8] (.one 8) mYes (mLc (mSrc (mSlot 8)) [9] (.one 9) mYes (mLst (mCons (mCall 2 g_is_begins (mCons (mSlot 0) (mCons (mSlot 9) mNil))) (mCons (mCall 2 g_is_setting (mCons (mSlot 0) (mCons (mSlot 9) mNil))) mNil))))))
  (sSeq (sAsg (.one 6) (mLst (mCons (mBin .Mult (mLst (mCons (mLst (mCons (mC (.bl true)) (mCons (mC (.bl true)) mNil))) mNil)) (mC (.int 3))) (mCons (mBin .Mult (mLst (mCons (mLst (mCons (mC (.bl true)) (mCons (mC (.bl false)) mNil))) mNil)) (mC (.int 3))) (mCons (mBin .Mult (mLst (mCons (mLst (mCons (mC (.bl false)) (mCons (mC (.bl false)) mNil))) mNil)) (mCallB .len (mCons (mSlot 3) mNil))) mNil)))))
  (sSeq (sAsg (.one 7) (mCall 1 g__law_lists (mCons (mSlot 0) mNil)))
  (sSeq (sAsg (.one 5) (mBin .Add (mSlot 5) (mLst (mCons (mCallK g_is_begins [0, 1] (mCons (mSlot 7) (mCons (mIx (mSlot 1) (mC (.int 0))) mNil))) (mCons (mCallK g_is_setting [0, 1] (mCons (mSlot 7) (mCons (mIx (mSlot 2) (mC (.int 0))) mNil))) (mCons (mCallK g_is_mill [0] (mCons (mSlot 0) mNil)) mNil))))))
  (sSeq (sAsg (.one 5) (mBin .Add (mSlot 5) (mLst (mCons (mCall 2 g_is_setting (mCons (mTup (mCons (mTup mNil) (mCons (mTup mNil) mNil))) (mCons (mTup mNil) mNil))) (mCons (mCall 2 g_is_begins (mCons (mTup (mCons (mTup mNil) (mCons (mTup mNil) mNil))) (mCons (mLst mNil) mNil))) mNil)))))
  (sRet (mCall 2 g__law_same (mCons (mSlot 5) (mCons (mBin .Add (mSlot 6) (mLst (mCons (mC (.bl true)) (mCons (mC (.bl false)) (mCons (mC (.bl true)) (mCons (mC (.bl true)) (mCons (mC (.bl false)) mNil))))))) mNil)))))))))))))))))
theorem r_law_begins_right (g__law_lists : Fn) (g__law_same : Fn) (g_is_begins : Fn) (g_is_mill : Fn) (g_is_setting : Fn) : sv (c_law_begins_right g__law_lists g__law_same g_is_begins g_is_mill g_is_setting) (ev (c_law_begins_right g__law_lists g__law_same g_is_begins g_is_mill g_is_setting) 90) ⟨defScope (topS 55), fun _ => true⟩ 90 (defBody (topS 55)) = b_law_begins_right g__law_lists g__law_same g_is_begins g_is_mill g_is_setting := by rfl
abbrev n_law_off_right : List Str := [⟨#[95, 108, 97, 119, 95, 107, 105, 116, 95, 104, 101, 114, 101]⟩, ⟨#[95, 108, 97, 119, 95, 102, 97, 114]⟩, ⟨#[95, 108, 97, 119, 95, 98, 101, 103, 105, 110, 115, 95, 115, 111]⟩, ⟨#[95, 108, 97, 119, 95, 114, 111, 119, 115, 95, 115, 111]⟩, ⟨#[95, 108, 97, 119, 95, 103, 111, 116]⟩, ⟨#[95, 108, 97, 119, 95, 100, 117, 101]⟩, ⟨#[95, 108, 97, 119, 95, 111, 110, 101, 95, 115, 111]⟩, ⟨#[95, 108, 97, 119, 95, 115, 111, 102, 116]⟩, ⟨#[95, 108, 97, 119, 95, 111, 119, 110]⟩, ⟨#[95, 108, 97, 119, 95, 107]⟩, ⟨#[95, 108, 97, 119, 95, 116, 97, 103]⟩, ⟨#[95, 108, 97, 119, 95, 111, 102, 102]⟩]
def c_law_off_right (g__law_half : Fn) (g__law_heard : Fn) (g__law_lists : Fn) (g__law_same : Fn) (g_off_by : Fn) (g_unkept : Fn) : Cfg := mkC n_law_off_right [(⟨#[95, 108, 97, 119, 95, 104, 97, 108, 102]⟩, 1, g__law_half), (⟨#[95, 108, 97, 119, 95, 104, 101, 97, 114, 100]⟩, 3, g__law_heard), (⟨#[95, 108, 97, 119, 95, 108, 105, 115, 116, 115]⟩, 1, g__law_lists), (⟨#[95, 108, 97, 119, 95, 115, 97, 109, 101]⟩, 2, g__law_same), (⟨#[111, 102, 102, 95, 98, 121]⟩, 3, g_off_by), (⟨#[117, 110, 107, 101, 112, 116]⟩, 2, g_unkept)] [((⟨#[111, 102, 102, 95, 98, 121]⟩, [⟨#[110, 97, 109, 101]⟩, ⟨#[98, 101, 103, 105, 110, 115]⟩, ⟨#[109, 105, 108, 108]⟩]), [2, 1, 0]), ((⟨#[117, 110, 107, 101, 112, 116]⟩, [⟨#[98, 101, 103, 105, 110, 115]⟩, ⟨#[109, 105, 108, 108]⟩]), [1, 0])]
def b_law_off_right (g__law_half : Fn) (g__law_heard : Fn) (g__law_lists : Fn) (g__law_same : Fn) (g_off_by : Fn) (g_unkept : Fn) : StM := (sSeq (sAsg (.one 2) (mTup (mCons (mTup (mCons (mC (.str ⟨#[97]⟩)) (mCons (mC (.int 0)) mNil))) (mCons (mTup (mCons (mC (.str ⟨#[98]⟩)) (mCons (mC (.int 0)) mNil))) (mCons (mTup (mCons (mC (.str ⟨#[99]⟩)) (mCons (mSlot 1) mNil))) mNil)))))
  (sSeq (sAsg (.one 3) (mLst (mCons (mTup (mCons (mC (.str ⟨#[112]⟩)) (mCons (mC (.int 9)) mNil))) (mCons (mTup (mCons (mC (.str ⟨#[113]⟩)) (mCons (mBin .Mod (mBin .Sub (mSlot 1) (mC (.int 2))) (mC (.int 4))) mNil))) (mCons (mTup (mCons (mC (.str ⟨#[114]⟩)) (mCons (mBin .Mod (mBin .Sub (mSlot 1) (mC (.int 5))) (mC (.int 6))) mNil))) (mCons (mTup (mCons (mC (.str ⟨#[115]⟩)) (mCons (mLst (mCons (mC (.str ⟨#[110, 111, 110, 101]⟩)) (mCons (mC (.str ⟨#[115]⟩)) (mCons (mC (.bl true)) mNil)))) mNil))) (mCons (mTup (mCons (mC (.str ⟨#[97]⟩)) (mCons (mLst (mCons (mC (.str ⟨#[110, 111, 110, 101]⟩)) (mCons (mC (.str ⟨#[97]⟩)) (mCons (mC (.bl true)) mNil)))) mNil))) mNil)))))))
  (sSeq (sAsg (.one 4) (mLc (mSrc (mSlot 3)) [8] (.one 8) mYes (mCall 3 g__law_heard (mCons (mSlot 0) (mCons (mSlot 2) (mCons (mIx (mSlot 8) (mC (.int 0))) mNil))))))
  (sSeq (sAsg (.one 5) (mLc (mSrc (mSlot 3)) [8] (.one 8) mYes (mIx (mSlot 8) (mC (.int 1)))))
  (sSeq (sAsg (.one 3) (mTup (mCons (mTup (mCons (mC (.str ⟨#[112]⟩)) (mCons (mC (.str ⟨#[]⟩)) (mCons (mC (.str ⟨#[97]⟩)) (mCons (mC (.int 5)) (mCons (mC (.int 0)) mNil)))))) (mCons (mTup (mCons (mC (.str ⟨#[113]⟩)) (mCons (mC (.str ⟨#[97]⟩)) (mCons (mC (.str ⟨#[]⟩)) (mCons (mC (.int 5)) (mCons (mC (.int 0)) mNil)))))) (mCons (mTup (mCons (mC (.str ⟨#[114]⟩)) (mCons (mC (.str ⟨#[]⟩)) (mCons (mC (.str ⟨#[97]⟩)) (mCons (mC (.int 7)) (mCons (mC (.int 1)) mNil)))))) (mCons (mTup (mCons (mC (.str ⟨#[115]⟩)) (mCons (mC (.str ⟨#[97]⟩)) (mCons (mC (.str ⟨#[]⟩)) (mCons (mUn .USub (mC (.int 3))) (mCons (mC (.int 4)) mNil)))))) mNil))))))
  (sSeq (sAsg (.many [6, 7]) (mTup (mCons (mTup (mCons (mTup (mCons (mTup (mCons (mC (.str ⟨#[97]⟩)) (mCons (mC (.int 3)) (mCons (mC (.int 1)) mNil)))) mNil)) (mCons (mSlot 3) mNil))) (mCons (mLst (mCons (mLst (mCons (mC (.str ⟨#[97]⟩)) (mCons (mUn .USub (mSlot 1)) mNil))) mNil)) mNil))))
  (sSeq (sAsg (.one 4) (mBin .Add (mSlot 4) (mLc (mSrc (mTup (mCons (mC (.int 5)) (mCons (mUn .USub (mC (.int 5))) (mCons (mC (.int 3)) mNil))))) [9] (.one 9) mYes (mLc (mSrc (mC (.str ⟨#[112, 113, 114, 115]⟩))) [10] (.one 10) mYes (mCall 3 g_off_by (mCons (mSlot 6) (mCons (mTup (mCons (mTup (mCons (mC (.str ⟨#[97]⟩)) (mCons (mSlot 9) mNil))) mNil)) (mCons (mSlot 10) mNil))))))))
  (sSeq (sAsg (.one 5) (mBin .Add (mSlot 5) (mLst (mCons (mLst (mCons (mC (.int 0)) (mCons (mUn .USub (mC (.int 10))) (mCons (mC (.int 0)) (mCons (mC (.int 2)) mNil))))) (mCons (mLst (mCons (mUn .USub (mC (.int 10))) (mCons (mC (.int 0)) (mCons (mC (.int 0)) (mCons (mC (.int 0)) mNil))))) (mCons (mLst (mCons (mUn .USub (mC (.int 2))) (mCons (mUn .USub (mC (.int 8))) (mCons (mC (.int 0)) (mCons (mC (.int 0)) mNil))))) mNil))))))
  (sSeq (sAsg (.one 4) (mBin .Add (mSlot 4) (mLst (mCons (mLc (mSrc (mTup (mCons (mC (.int 5)) (mCons (mUn .USub (mC (.int 5))) (mCons (mC (.int 3)) mNil))))) [9] (.one 9) mYes (mCall 2 g_unkept (mCons (mSlot 6) (mCons (mTup (mCons (mTup (mCons (mC (.str ⟨#[97]⟩)) (mCons (mSlot 9) mNil))) mNil)) mNil)))) (mCons (mCall 2 g_unkept (mCons (mSlot 0) (mCons (mSlot 2) mNil))) (mCons (mCall 2 g_unkept (mCons (mTup (mCons (mTup mNil) (mCons (mTup mNil) mNil))) (mCons (mTup mNil) mNil))) mNil))))))
  (sSeq (sAsg (.one 5) (mBin .Add (mSlot 5) (mLst (mCons (mLst (mCons (mTup (mCons (mC (.str ⟨#[113]⟩)) (mCons (mC (.str ⟨#[115]⟩)) mNil))) (mCons (mTup (mCons (mC (.str ⟨#[112]⟩)) mNil)) (mCons (mTup (mCons (mC (.str ⟨#[112]⟩)) (mCons (mC (.str ⟨#[113]⟩)) mNil))) mNil)))) (mCons (mCallB .tuple (mCons (mLc (mZip (mCons (mC (.str ⟨#[112, 113, 114]⟩)) (mCons (mSlot 5) mNil))) [10, 11] (.many [10, 11]) (asB (mCmp .NotEq (mSlot 11) (mC (.int 0)))) (mSlot 10)) mNil)) (mCons (mTup mNil) mNil))))))
  (sSeq (sAsg (.one 4) (mBin .Add (mSlot 4) (mLst (mCons (mCallK g_off_by [2, 1, 0] (mCons (mC (.str ⟨#[113]⟩)) (mCons (mSlot 7) (mCons (mCall 1 g__law_lists (mCons (mSlot 6) mNil)) mNil)))) (mCons (mCallK g_unkept [1, 0] (mCons (mSlot 7) (mCons (mCall 1 g__law_half (mCons (mSlot 6) mNil)) mNil))) (mCons (mSlot 7) mNil))))))
  (sRet (mCall 2 g__law_same (mCons (mSlot 4) (mCons (mBin .Add (mSlot 5) (mLst (mCons (mBin .Sub (mSlot 1) (mC (.int 5))) (mCons (mTup (mCons (mC (.str ⟨#[112]⟩)) (mCons (mC (.str ⟨#[113]⟩)) (mCons (mC (.str ⟨#[115]⟩)) mNil)))) (mCons (mLst (mCons (mLst (mCons (mC (.str ⟨#[97]⟩)) (mCons (mUn .USub (mSlot 1)) mNil))) mNil)) mNil))))) mNil)))))))))))))))
theorem r_law_off_right (g__law_half : Fn) (g__law_heard : Fn) (g__law_lists : Fn) (g__law_same : Fn) (g_off_by : Fn) (g_unkept : Fn) : sv (c_law_off_right g__law_half g__law_heard g__law_lists g__law_same g_off_by g_unkept) (ev (c_law_off_right g__law_half g__law_heard g__law_lists g__law_same g_off_by g_unkept) 90) ⟨defScope (topS 56), fun _ => true⟩ 90 (defBody (topS 56)) = b_law_off_right g__law_half g__law_heard g__law_lists g__law_same g_off_by g_unkept := by rfl
abbrev n_law_refusal : List Str := [⟨#[95, 108, 97, 119, 95, 100, 111, 111, 114]⟩, ⟨#[95, 108, 97, 119, 95, 109, 105, 108, 108, 95, 115, 111]⟩, ⟨#[95, 108, 97, 119, 95, 109, 97, 116, 116, 101, 114]⟩, ⟨#[101, 114, 114, 111, 114, 95, 97]⟩, ⟨#[101, 114, 114, 111, 114, 95, 98]⟩, ⟨#[101, 114, 114, 111, 114, 95, 99]⟩, ⟨#[101, 114, 114, 111, 114, 95, 100]⟩]
def c_law_refusal (g_renamed : Fn) (g_shifted : Fn) (g_turned_saying : Fn) (g_with_saying : Fn) (g_with_wheel : Fn) (g_without_saying : Fn) (g_without_wheel : Fn) : Cfg := mkC n_law_refusal [(⟨#[114, 101, 110, 97, 109, 101, 100]⟩, 2, g_renamed), (⟨#[115, 104, 105, 102, 116, 101, 100]⟩, 3, g_shifted), (⟨#[116, 117, 114, 110, 101, 100, 95, 115, 97, 121, 105, 110, 103]⟩, 2, g_turned_saying), (⟨#[119, 105, 116, 104, 95, 115, 97, 121, 105, 110, 103]⟩, 2, g_with_saying), (⟨#[119, 105, 116, 104, 95, 119, 104, 101, 101, 108]⟩, 2, g_with_wheel), (⟨#[119, 105, 116, 104, 111, 117, 116, 95, 115, 97, 121, 105, 110, 103]⟩, 2, g_without_saying), (⟨#[119, 105, 116, 104, 111, 117, 116, 95, 119, 104, 101, 101, 108]⟩, 2, g_without_wheel)] []
def b_law_refusal (g_renamed : Fn) (g_shifted : Fn) (g_turned_saying : Fn) (g_with_saying : Fn) (g_with_wheel : Fn) (g_without_saying : Fn) (g_without_wheel : Fn) : StM := (sTry (c_law_refusal g_renamed g_shifted g_turned_saying g_with_saying g_with_wheel g_without_saying g_without_wheel) ⟨defScope (topS 57), fun _ => true⟩ (sSeq (sIf (asB (mCmp .Eq (mSlot 0) (mC (.int 6)))) (sRet (mCall 3 g_shifted (mCons (mSlot 1) (mCons (mSlot 2) (mCons (mC (.int 3)) mNil))))) sNil)
  (sSeq (sIf (asB (mCmp .Lt (mSlot 0) (mC (.int 3)))) (sRet (mCallF (c_law_refusal g_renamed g_shifted g_turned_saying g_with_saying g_with_wheel g_without_saying g_without_wheel).cl (mIx (mLst (mCons (mC (.fn ⟨#[119, 105, 116, 104, 111, 117, 116, 95, 119, 104, 101, 101, 108]⟩)) (mCons (mC (.fn ⟨#[119, 105, 116, 104, 111, 117, 116, 95, 115, 97, 121, 105, 110, 103]⟩)) (mCons (mC (.fn ⟨#[116, 117, 114, 110, 101, 100, 95, 115, 97, 121, 105, 110, 103]⟩)) mNil)))) (mSlot 0)) (mCons (mSlot 1) (mCons (mSlot 2) mNil)))) sNil)
  (sRet (mCallF (c_law_refusal g_renamed g_shifted g_turned_saying g_with_saying g_with_wheel g_without_saying g_without_wheel).cl (mIx (mLst (mCons (mC (.fn ⟨#[119, 105, 116, 104, 95, 119, 104, 101, 101, 108]⟩)) (mCons (mC (.fn ⟨#[119, 105, 116, 104, 95, 115, 97, 121, 105, 110, 103]⟩)) (mCons (mC (.fn ⟨#[114, 101, 110, 97, 109, 101, 100]⟩)) mNil)))) (mBin .Sub (mSlot 0) (mC (.int 3)))) (mCons (mSlot 1) (mCons (mSlot 2) mNil)))))) (hdsAt 0 (defBody (topS 57))))
theorem r_law_refusal (g_renamed : Fn) (g_shifted : Fn) (g_turned_saying : Fn) (g_with_saying : Fn) (g_with_wheel : Fn) (g_without_saying : Fn) (g_without_wheel : Fn) : sv (c_law_refusal g_renamed g_shifted g_turned_saying g_with_saying g_with_wheel g_without_saying g_without_wheel) (ev (c_law_refusal g_renamed g_shifted g_turned_saying g_with_saying g_with_wheel g_without_saying g_without_wheel) 90) ⟨defScope (topS 57), fun _ => true⟩ 90 (defBody (topS 57)) = b_law_refusal g_renamed g_shifted g_turned_saying g_with_saying g_with_wheel g_without_saying g_without_wheel := by rfl
abbrev n_law_changed_right : List Str := [⟨#[95, 108, 97, 119, 95, 103, 111, 116]⟩, ⟨#[95, 108, 97, 119, 95, 100, 117, 101]⟩, ⟨#[95, 108, 97, 119, 95, 111, 100, 100, 95, 115, 111]⟩, ⟨#[95, 108, 97, 119, 95, 107, 105, 116, 95, 104, 101, 114, 101]⟩, ⟨#[95, 108, 97, 119, 95, 102, 97, 114]⟩, ⟨#[95, 108, 97, 119, 95, 104, 117, 98, 115, 95, 115, 111]⟩, ⟨#[95, 108, 97, 119, 95, 110, 111, 116, 101, 115, 95, 115, 111]⟩]
def c_law_changed_right (g__law_kit : Fn) (g__law_refused_right : Fn) (g__law_same : Fn) (g__law_soft_right : Fn) (g_renamed : Fn) (g_shifted : Fn) (g_tidied : Fn) (g_turned_saying : Fn) (g_with_saying : Fn) (g_with_wheel : Fn) (g_without_saying : Fn) (g_without_wheel : Fn) : Cfg := mkC n_law_changed_right [(⟨#[95, 108, 97, 119, 95, 107, 105, 116]⟩, 0, g__law_kit), (⟨#[95, 108, 97, 119, 95, 114, 101, 102, 117, 115, 101, 100, 95, 114, 105, 103, 104, 116]⟩, 1, g__law_refused_right), (⟨#[95, 108, 97, 119, 95, 115, 97, 109, 101]⟩, 2, g__law_same), (⟨#[95, 108, 97, 119, 95, 115, 111, 102, 116, 95, 114, 105, 103, 104, 116]⟩, 1, g__law_soft_right), (⟨#[114, 101, 110, 97, 109, 101, 100]⟩, 2, g_renamed), (⟨#[115, 104, 105, 102, 116, 101, 100]⟩, 3, g_shifted), (⟨#[116, 105, 100, 105, 101, 100]⟩, 1, g_tidied), (⟨#[116, 117, 114, 110, 101, 100, 95, 115, 97, 121, 105, 110, 103]⟩, 2, g_turned_saying), (⟨#[119, 105, 116, 104, 95, 115, 97, 121, 105, 110, 103]⟩, 2, g_with_saying), (⟨#[119, 105, 116, 104, 95, 119, 104, 101, 101, 108]⟩, 2, g_with_wheel), (⟨#[119, 105, 116, 104, 111, 117, 116, 95, 115, 97, 121, 105, 110, 103]⟩, 2, g_without_saying), (⟨#[119, 105, 116, 104, 111, 117, 116, 95, 119, 104, 101, 101, 108]⟩, 2, g_without_wheel)] []
def b_law_changed_right (g__law_kit : Fn) (g__law_refused_right : Fn) (g__law_same : Fn) (g__law_soft_right : Fn) (g_renamed : Fn) (g_shifted : Fn) (g_tidied : Fn) (g_turned_saying : Fn) (g_with_saying : Fn) (g_with_wheel : Fn) (g_without_saying : Fn) (g_without_wheel : Fn) : StM := (sSeq (sPar [3, 4] (mCons (mCall 0 g__law_kit mNil) (mCons (mBin .Pow (mC (.int 10)) (mC (.int 40))) mNil)))
  (sSeq (sAsg (.many [5, 6]) (mSlot 3))
  (sSeq (sAsg (.one 0) (mLst (mCons (mCall 2 g_with_wheel (mCons (mSlot 3) (mCons (mTup (mCons (mC (.str ⟨#[97, 97]⟩)) (mCons (mC (.int 1)) (mCons (mC (.int 1)) mNil)))) mNil))) (mCons (mCall 2 g_without_wheel (mCons (mTup (mCons (mSlot 5) (mCons (mSl (mSlot 6) mNoPart (mPart (mC (.int 1)))) mNil))) (mCons (mC (.str ⟨#[99]⟩)) mNil))) (mCons (mCall 2 g_with_wheel (mCons (mTup (mCons (mTup mNil) (mCons (mTup mNil) mNil))) (mCons (mTup (mCons (mC (.str ⟨#[98]⟩)) (mCons (mC (.int 5)) (mCons (mC (.int 4)) mNil)))) mNil))) mNil)))))
  (sSeq (sAsg (.one 1) (mLst (mCons (mTup (mCons (mBin .Add (mTup (mCons (mIx (mSlot 5) (mC (.int 0))) (mCons (mTup (mCons (mC (.str ⟨#[97, 97]⟩)) (mCons (mC (.int 1)) (mCons (mC (.int 1)) mNil)))) mNil))) (mSl (mSlot 5) (mPart (mC (.int 1))) mNoPart)) (mCons (mSlot 6) mNil))) (mCons (mTup (mCons (mSl (mSlot 5) mNoPart (mPart (mC (.int 2)))) (mCons (mSl (mSlot 6) mNoPart (mPart (mC (.int 1)))) mNil))) (mCons (mTup (mCons (mTup (mCons (mTup (mCons (mC (.str ⟨#[98]⟩)) (mCons (mC (.int 5)) (mCons (mC (.int 4)) mNil)))) mNil)) (mCons (mTup mNil) mNil))) mNil)))))
  (sSeq (sAsg (.one 0) (mBin .Add (mSlot 0) (mLst (mCons (mCall 2 g_with_saying (mCons (mSlot 3) (mCons (mTup (mCons (mC (.str ⟨#[97]⟩)) (mCons (mC (.str ⟨#[99]⟩)) (mCons (mC (.str ⟨#[]⟩)) (mCons (mSlot 4) (mCons (mC (.int 0)) mNil)))))) mNil))) (mCons (mCall 2 g_with_saying (mCons (mSlot 3) (mCons (mTup (mCons (mC (.str ⟨#[122]⟩)) (mCons (mC (.str ⟨#[]⟩)) (mCons (mC (.str ⟨#[98]⟩)) (mCons (mUn .USub (mSlot 4)) (mCons (mC (.int 1)) mNil)))))) mNil))) (mCons (mCall 2 g_without_saying (mCons (mSlot 3) (mCons (mC (.str ⟨#[113]⟩)) mNil))) mNil))))))
  (sSeq (sAsg (.one 1) (mBin .Add (mSlot 1) (mLst (mCons (mTup (mCons (mSlot 5) (mCons (mBin .Add (mTup (mCons (mTup (mCons (mC (.str ⟨#[97]⟩)) (mCons (mC (.str ⟨#[99]⟩)) (mCons (mC (.str ⟨#[]⟩)) (mCons (mSlot 4) (mCons (mC (.int 0)) mNil)))))) mNil)) (mSlot 6)) mNil))) (mCons (mTup (mCons (mSlot 5) (mCons (mBin .Add (mSlot 6) (mTup (mCons (mTup (mCons (mC (.str ⟨#[122]⟩)) (mCons (mC (.str ⟨#[]⟩)) (mCons (mC (.str ⟨#[98]⟩)) (mCons (mUn .USub (mSlot 4)) (mCons (mC (.int 1)) mNil)))))) mNil))) mNil))) mNil)))))
  (sSeq (sDrop (mMeth .append (mSlot 1) (mCons (mTup (mCons (mSlot 5) (mCons (mTup (mCons (mIx (mSlot 6) (mC (.int 0))) (mCons (mIx (mSlot 6) (mC (.int 2))) mNil))) mNil))) mNil)))
  (sSeq (sAsg (.one 0) (mBin .Add (mSlot 0) (mLst (mCons (mIx (mIx (mCall 2 g_turned_saying (mCons (mSlot 3) (mCons (mC (.str ⟨#[113]⟩)) mNil))) (mC (.int 1))) (mC (.int 1))) (mCons (mCall 2 g_turned_saying (mCons (mCall 2 g_turned_saying (mCons (mSlot 3) (mCons (mC (.str ⟨#[112]⟩)) mNil))) (mCons (mC (.str ⟨#[112]⟩)) mNil))) (mCons (mCall 1 g_tidied (mCons (mSlot 3) mNil)) mNil))))))
  (sSeq (sAsg (.one 1) (mBin .Add (mSlot 1) (mLst (mCons (mTup (mCons (mC (.str ⟨#[113]⟩)) (mCons (mC (.str ⟨#[99]⟩)) (mCons (mC (.str ⟨#[98]⟩)) (mCons (mUn .USub (mC (.int 2))) (mCons (mC (.int 4)) mNil)))))) (mCons (mSlot 3) (mCons (mSlot 3) mNil))))))
  (sSeq (sAsg (.one 2) (mTup (mCons (mSlot 5) (mCons (mTup (mCons (mTup (mCons (mC (.str ⟨#[112]⟩)) (mCons (mC (.str ⟨#[97]⟩)) (mCons (mC (.str ⟨#[]⟩)) (mCons (mUn .USub (mC (.int 3))) (mCons (mC (.int 0)) mNil)))))) (mCons (mTup (mCons (mC (.str ⟨#[113]⟩)) (mCons (mC (.str ⟨#[97]⟩)) (mCons (mC (.str ⟨#[98]⟩)) (mCons (mUn .USub (mC (.int 1))) (mCons (mC (.int 4)) mNil)))))) (mCons (mTup (mCons (mC (.str ⟨#[114]⟩)) (mCons (mC (.str ⟨#[98]⟩)) (mCons (mC (.str ⟨#[97]⟩)) (mCons (mSlot 4) (mCons (mC (.int 7)) mNil)))))) (mCons (mTup (mCons (mC (.str ⟨#[115]⟩)) (mCons (mC (.str ⟨#[]⟩)) (mCons (mC (.str ⟨#[99]⟩)) (mCons (mC (.int 6)) (mCons (mC (.int 6)) mNil)))))) mNil))))) mNil))))
  (sSeq (sAsg (.one 2) (mTup (mCons (mSlot 5) (mCons (mBin .Add (mIx (mSlot 2) (mC (.int 1))) (mTup (mCons (mTup (mCons (mC (.str ⟨#[116]⟩)) (mCons (mC (.str ⟨#[98]⟩)) (mCons (mC (.str ⟨#[99]⟩)) (mCons (mUn .USub (mC (.int 9))) (mCons (mC (.int 1)) mNil)))))) mNil))) mNil))))
  (sSeq (sAsg (.one 0) (mBin .Add (mSlot 0) (mLst (mCons (mIx (mCall 1 g_tidied (mCons (mSlot 2) mNil)) (mC (.int 1))) (mCons (mIx (mCall 3 g_shifted (mCons (mSlot 2) (mCons (mC (.str ⟨#[97]⟩)) (mCons (mC (.int 5)) mNil)))) (mC (.int 1))) (mCons (mSl (mIx (mCall 3 g_shifted (mCons (mSlot 2) (mCons (mC (.str ⟨#[99]⟩)) (mCons (mUn .USub (mSlot 4)) mNil)))) (mC (.int 1))) (mPart (mC (.int 3))) mNoPart) mNil))))))
  (sSeq (sDrop (mMeth .append (mSlot 1) (mCons (mTup (mCons (mTup (mCons (mC (.str ⟨#[112]⟩)) (mCons (mC (.str ⟨#[97]⟩)) (mCons (mC (.str ⟨#[]⟩)) (mCons (mUn .USub (mC (.int 3))) (mCons (mC (.int 0)) mNil)))))) (mCons (mTup (mCons (mC (.str ⟨#[113]⟩)) (mCons (mC (.str ⟨#[97]⟩)) (mCons (mC (.str ⟨#[98]⟩)) (mCons (mC (.int 3)) (mCons (mC (.int 4)) mNil)))))) (mCons (mTup (mCons (mC (.str ⟨#[114]⟩)) (mCons (mC (.str ⟨#[98]⟩)) (mCons (mC (.str ⟨#[97]⟩)) (mCons (mBin .Mod (mSlot 4) (mC (.int 7))) (mCons (mC (.int 7)) mNil)))))) (mCons (mTup (mCons (mC (.str ⟨#[115]⟩)) (mCons (mC (.str ⟨#[]⟩)) (mCons (mC (.str ⟨#[99]⟩)) (mCons (mC (.int 0)) (mCons (mC (.int 6)) mNil)))))) mNil))))) mNil)))
  (sSeq (sSub (mBin .Add (mIx (mSlot 1) (mUn .USub (mC (.int 1)))) (mTup (mCons (mTup (mCons (mC (.str ⟨#[116]⟩)) (mCons (mC (.str ⟨#[98]⟩)) (mCons (mC (.str ⟨#[99]⟩)) (mCons (mC (.int 0)) (mCons (mC (.int 1)) mNil)))))) mNil))) (mSlot 1) (mUn .USub (mC (.int 1))))
  (sSeq (sDrop (mMeth .append (mSlot 1) (mCons (mBin .Add (mTup (mCons (mTup (mCons (mC (.str ⟨#[112]⟩)) (mCons (mC (.str ⟨#[97]⟩)) (mCons (mC (.str ⟨#[]⟩)) (mCons (mUn .USub (mC (.int 8))) (mCons (mC (.int 0)) mNil)))))) (mCons (mTup (mCons (mC (.str ⟨#[113]⟩)) (mCons (mC (.str ⟨#[97]⟩)) (mCons (mC (.str ⟨#[98]⟩)) (mCons (mUn .USub (mC (.int 6))) (mCons (mC (.int 4)) mNil)))))) (mCons (mTup (mCons (mC (.str ⟨#[114]⟩)) (mCons (mC (.str ⟨#[98]⟩)) (mCons (mC (.str ⟨#[97]⟩)) (mCons (mBin .Add (mSlot 4) (mC (.int 5))) (mCons (mC (.int 7)) mNil)))))) mNil)))) (mSl (mIx (mSlot 2) (mC (.int 1))) (mPart (mC (.int 3))) mNoPart)) mNil)))
  (sSeq (sDrop (mMeth .append (mSlot 1) (mCons (mTup (mCons (mTup (mCons (mC (.str ⟨#[115]⟩)) (mCons (mC (.str ⟨#[]⟩)) (mCons (mC (.str ⟨#[99]⟩)) (mCons (mBin .Sub (mC (.int 6)) (mSlot 4)) (mCons (mC (.int 6)) mNil)))))) (mCons (mTup (mCons (mC (.str ⟨#[116]⟩)) (mCons (mC (.str ⟨#[98]⟩)) (mCons (mC (.str ⟨#[99]⟩)) (mCons (mBin .Sub (mUn .USub (mC (.int 9))) (mSlot 4)) (mCons (mC (.int 1)) mNil)))))) mNil))) mNil)))
  (sSeq (sAsg (.one 0) (mBin .Add (mSlot 0) (mLst (mCons (mCall 2 g_renamed (mCons (mSlot 3) (mCons (mTup (mCons (mTup (mCons (mC (.str ⟨#[97]⟩)) (mCons (mC (.str ⟨#[99]⟩)) mNil))) (mCons (mTup (mCons (mC (.str ⟨#[99]⟩)) (mCons (mC (.str ⟨#[97]⟩)) mNil))) mNil))) mNil))) (mCons (mIx (mCall 2 g_renamed (mCons (mSlot 3) (mCons (mTup (mCons (mTup (mCons (mC (.str ⟨#[98]⟩)) (mCons (mC (.str ⟨#[122, 122]⟩)) mNil))) mNil)) mNil))) (mC (.int 0))) (mCons (mCall 2 g_renamed (mCons (mSlot 3) (mCons (mTup mNil) mNil))) mNil))))))
  (sSeq (sDrop (mMeth .append (mSlot 1) (mCons (mTup (mCons (mTup (mCons (mTup (mCons (mC (.str ⟨#[97]⟩)) (mCons (mC (.int 6)) (mCons (mC (.int 1)) mNil)))) (mCons (mTup (mCons (mC (.str ⟨#[98]⟩)) (mCons (mC (.int 8)) (mCons (mC (.int 2)) mNil)))) (mCons (mTup (mCons (mC (.str ⟨#[99]⟩)) (mCons (mC (.int 12)) (mCons (mC (.int 1)) mNil)))) mNil)))) (mCons (mTup (mCons (mTup (mCons (mC (.str ⟨#[112]⟩)) (mCons (mC (.str ⟨#[99]⟩)) (mCons (mC (.str ⟨#[98]⟩)) (mCons (mC (.int 3)) (mCons (mC (.int 12)) mNil)))))) (mCons (mTup (mCons (mC (.str ⟨#[113]⟩)) (mCons (mC (.str ⟨#[98]⟩)) (mCons (mC (.str ⟨#[97]⟩)) (mCons (mC (.int 2)) (mCons (mC (.int 4)) mNil)))))) (mCons (mTup (mCons (mC (.str ⟨#[114]⟩)) (mCons (mC (.str ⟨#[99]⟩)) (mCons (mC (.str ⟨#[97]⟩)) (mCons (mC (.int 5)) (mCons (mC (.int 6)) mNil)))))) mNil)))) mNil))) mNil)))
  (sSeq (sAsg (.one 1) (mBin .Add (mSlot 1) (mLst (mCons (mBin .Add (mSl (mSlot 5) mNoPart (mPart (mC (.int 1)))) (mTup (mCons (mTup (mCons (mC (.str ⟨#[99]⟩)) (mCons (mC (.int 6)) (mCons (mC (.int 1)) mNil)))) (mCons (mTup (mCons (mC (.str ⟨#[122, 122]⟩)) (mCons (mC (.int 8)) (mCons (mC (.int 2)) mNil)))) mNil)))) (mCons (mSlot 3) mNil)))))
  (sSeq (sDrop (mMeth .append (mSlot 0) (mCons (mSl (mIx (mCall 2 g_renamed (mCons (mSlot 2) (mCons (mTup (mCons (mTup (mCons (mC (.str ⟨#[99]⟩)) (mCons (mC (.str ⟨#[98]⟩)) mNil))) (mCons (mTup (mCons (mC (.str ⟨#[98]⟩)) (mCons (mC (.str ⟨#[99]⟩)) mNil))) mNil))) mNil))) (mC (.int 1))) (mPart (mC (.int 3))) mNoPart) mNil)))
  (sSeq (sDrop (mMeth .append (mSlot 1) (mCons (mTup (mCons (mTup (mCons (mC (.str ⟨#[115]⟩)) (mCons (mC (.str ⟨#[]⟩)) (mCons (mC (.str ⟨#[98]⟩)) (mCons (mC (.int 6)) (mCons (mC (.int 6)) mNil)))))) (mCons (mTup (mCons (mC (.str ⟨#[116]⟩)) (mCons (mC (.str ⟨#[99]⟩)) (mCons (mC (.str ⟨#[98]⟩)) (mCons (mUn .USub (mC (.int 9))) (mCons (mC (.int 1)) mNil)))))) mNil))) mNil)))
  (sSeq (sIf (mOrB (mNotB (mTru (mCall 2 g__law_same (mCons (mSlot 0) (mCons (mSlot 1) mNil))))) (mNotB (mTru (mCall 1 g__law_refused_right (mCons (mSlot 3) mNil))))) (sRet (mC (.bl false))) sNil)
  (sRet (mCall 1 g__law_soft_right (mCons (mSlot 3) mNil)))))))))))))))))))))))))
theorem r_law_changed_right (g__law_kit : Fn) (g__law_refused_right : Fn) (g__law_same : Fn) (g__law_soft_right : Fn) (g_renamed : Fn) (g_shifted : Fn) (g_tidied : Fn) (g_turned_saying : Fn) (g_with_saying : Fn) (g_with_wheel : Fn) (g_without_saying : Fn) (g_without_wheel : Fn) : sv (c_law_changed_right g__law_kit g__law_refused_right g__law_same g__law_soft_right g_renamed g_shifted g_tidied g_turned_saying g_with_saying g_with_wheel g_without_saying g_without_wheel) (ev (c_law_changed_right g__law_kit g__law_refused_right g__law_same g__law_soft_right g_renamed g_shifted g_tidied g_turned_saying g_with_saying g_with_wheel g_without_saying g_without_wheel) 90) ⟨defScope (topS 58), fun _ => true⟩ 90 (defBody (topS 58)) = b_law_changed_right g__law_kit g__law_refused_right g__law_same g__law_soft_right g_renamed g_shifted g_tidied g_turned_saying g_with_saying g_with_wheel g_without_saying g_without_wheel := by rfl
abbrev n_law_refused_right : List Str := [⟨#[95, 108, 97, 119, 95, 107, 105, 116, 95, 104, 101, 114, 101]⟩, ⟨#[95, 108, 97, 119, 95, 97, 115, 107, 115, 95, 115, 111]⟩, ⟨#[95, 108, 97, 119, 95, 103, 111, 116]⟩, ⟨#[95, 108, 97, 119, 95, 100, 117, 101]⟩, ⟨#[95, 108, 97, 119, 95, 111, 119, 110]⟩, ⟨#[95, 108, 97, 119, 95, 102, 111, 117, 114, 95, 115, 111]⟩, ⟨#[95, 108, 97, 119, 95, 116, 97, 103]⟩]
def c_law_refused_right (g__law_refusal : Fn) (g__law_same : Fn) : Cfg := mkC n_law_refused_right [(⟨#[95, 108, 97, 119, 95, 114, 101, 102, 117, 115, 97, 108]⟩, 3, g__law_refusal), (⟨#[95, 108, 97, 119, 95, 115, 97, 109, 101]⟩, 2, g__law_same)] []
def b_law_refused_right (g__law_refusal : Fn) (g__law_same : Fn) : StM := (sSeq (sAsg (.one 1) (mLst (mCons (mTup (mCons (mC (.int 0)) (mCons (mC (.str ⟨#[100]⟩)) (mCons (mC (.str ⟨#[119, 104, 101, 101, 108, 32, 100]⟩)) mNil)))) (mCons (mTup (mCons (mC (.int 0)) (mCons (mC (.str ⟨#[]⟩)) (mCons (mC (.str ⟨#[119, 104, 101, 101, 108, 32]⟩)) mNil)))) (mCons (mTup (mCons (mC (.int 0)) (mCons (mC (.str ⟨#[112]⟩)) (mCons (mC (.str ⟨#[119, 104, 101, 101, 108, 32, 112]⟩)) mNil)))) (mCons (mTup (mCons (mC (.int 1)) (mCons (mC (.str ⟨#[97]⟩)) (mCons (mC (.str ⟨#[115, 97, 121, 105, 110, 103, 32, 97]⟩)) mNil)))) mNil))))))
  (sSeq (sAsg (.one 1) (mBin .Add (mSlot 1) (mLst (mCons (mTup (mCons (mC (.int 1)) (mCons (mC (.str ⟨#[]⟩)) (mCons (mC (.str ⟨#[115, 97, 121, 105, 110, 103, 32]⟩)) mNil)))) (mCons (mTup (mCons (mC (.int 2)) (mCons (mC (.str ⟨#[115]⟩)) (mCons (mC (.str ⟨#[115, 97, 121, 105, 110, 103, 32, 115]⟩)) mNil)))) (mCons (mTup (mCons (mC (.int 2)) (mCons (mC (.str ⟨#[98]⟩)) (mCons (mC (.str ⟨#[115, 97, 121, 105, 110, 103, 32, 98]⟩)) mNil)))) (mCons (mTup (mCons (mC (.int 6)) (mCons (mC (.str ⟨#[112]⟩)) (mCons (mC (.str ⟨#[119, 104, 101, 101, 108, 32, 112]⟩)) mNil)))) mNil)))))))
  (sSeq (sAsg (.one 1) (mBin .Add (mSlot 1) (mLst (mCons (mTup (mCons (mC (.int 6)) (mCons (mC (.str ⟨#[]⟩)) (mCons (mC (.str ⟨#[119, 104, 101, 101, 108, 32]⟩)) mNil)))) (mCons (mTup (mCons (mC (.int 3)) (mCons (mTup (mCons (mC (.str ⟨#[98]⟩)) (mCons (mC (.int 8)) (mCons (mC (.int 2)) mNil)))) (mCons (mC (.str ⟨#[116, 119, 105, 99, 101, 32, 98]⟩)) mNil)))) (mCons (mTup (mCons (mC (.int 3)) (mCons (mTup (mCons (mC (.str ⟨#[99]⟩)) (mCons (mC (.int 1)) (mCons (mC (.int 1)) mNil)))) (mCons (mC (.str ⟨#[116, 119, 105, 99, 101, 32, 99]⟩)) mNil)))) mNil))))))
  (sSeq (sAsg (.one 1) (mBin .Add (mSlot 1) (mLst (mCons (mTup (mCons (mC (.int 4)) (mCons (mTup (mCons (mC (.str ⟨#[122]⟩)) (mCons (mC (.str ⟨#[100]⟩)) (mCons (mC (.str ⟨#[101]⟩)) (mCons (mC (.int 0)) (mCons (mC (.int 1)) mNil)))))) (mCons (mC (.str ⟨#[119, 104, 101, 101, 108, 32, 100]⟩)) mNil)))) (mCons (mTup (mCons (mC (.int 4)) (mCons (mTup (mCons (mC (.str ⟨#[122]⟩)) (mCons (mC (.str ⟨#[101]⟩)) (mCons (mC (.str ⟨#[100]⟩)) (mCons (mC (.int 0)) (mCons (mC (.int 1)) mNil)))))) (mCons (mC (.str ⟨#[119, 104, 101, 101, 108, 32, 101]⟩)) mNil)))) mNil)))))
  (sSeq (sAsg (.one 1) (mBin .Add (mSlot 1) (mLst (mCons (mTup (mCons (mC (.int 4)) (mCons (mTup (mCons (mC (.str ⟨#[112]⟩)) (mCons (mC (.str ⟨#[97]⟩)) (mCons (mC (.str ⟨#[100]⟩)) (mCons (mC (.int 0)) (mCons (mC (.int 1)) mNil)))))) (mCons (mC (.str ⟨#[119, 104, 101, 101, 108, 32, 100]⟩)) mNil)))) (mCons (mTup (mCons (mC (.int 4)) (mCons (mTup (mCons (mC (.str ⟨#[112]⟩)) (mCons (mC (.str ⟨#[97]⟩)) (mCons (mC (.str ⟨#[97]⟩)) (mCons (mC (.int 0)) (mCons (mC (.int 1)) mNil)))))) (mCons (mC (.str ⟨#[116, 119, 105, 99, 101, 32, 112]⟩)) mNil)))) mNil)))))
  (sSeq (sAsg (.one 1) (mBin .Add (mSlot 1) (mLst (mCons (mTup (mCons (mC (.int 4)) (mCons (mTup (mCons (mC (.str ⟨#[113]⟩)) (mCons (mC (.str ⟨#[97]⟩)) (mCons (mC (.str ⟨#[]⟩)) (mCons (mC (.int 0)) (mCons (mC (.int 1)) mNil)))))) (mCons (mC (.str ⟨#[116, 119, 105, 99, 101, 32, 113]⟩)) mNil)))) (mCons (mTup (mCons (mC (.int 5)) (mCons (mTup (mCons (mTup (mCons (mC (.str ⟨#[101]⟩)) (mCons (mC (.str ⟨#[120]⟩)) mNil))) (mCons (mTup (mCons (mC (.str ⟨#[100]⟩)) (mCons (mC (.str ⟨#[121]⟩)) mNil))) mNil))) (mCons (mC (.str ⟨#[119, 104, 101, 101, 108, 32, 101]⟩)) mNil)))) mNil)))))
  (sSeq (sAsg (.one 1) (mBin .Add (mSlot 1) (mLst (mCons (mTup (mCons (mC (.int 5)) (mCons (mTup (mCons (mTup (mCons (mC (.str ⟨#[97]⟩)) (mCons (mC (.str ⟨#[120]⟩)) mNil))) (mCons (mTup (mCons (mC (.str ⟨#[100]⟩)) (mCons (mC (.str ⟨#[121]⟩)) mNil))) (mCons (mTup (mCons (mC (.str ⟨#[101]⟩)) (mCons (mC (.str ⟨#[122]⟩)) mNil))) mNil)))) (mCons (mC (.str ⟨#[119, 104, 101, 101, 108, 32, 100]⟩)) mNil)))) (mCons (mTup (mCons (mC (.int 5)) (mCons (mTup (mCons (mTup (mCons (mC (.str ⟨#[]⟩)) (mCons (mC (.str ⟨#[120]⟩)) mNil))) mNil)) (mCons (mC (.str ⟨#[119, 104, 101, 101, 108, 32]⟩)) mNil)))) mNil)))))
  (sSeq (sAsg (.one 1) (mBin .Add (mSlot 1) (mLst (mCons (mTup (mCons (mC (.int 5)) (mCons (mTup (mCons (mTup (mCons (mC (.str ⟨#[97]⟩)) (mCons (mC (.str ⟨#[98]⟩)) mNil))) mNil)) (mCons (mC (.str ⟨#[116, 119, 105, 99, 101, 32, 98]⟩)) mNil)))) (mCons (mTup (mCons (mC (.int 5)) (mCons (mTup (mCons (mTup (mCons (mC (.str ⟨#[100]⟩)) (mCons (mC (.str ⟨#[97]⟩)) mNil))) mNil)) (mCons (mC (.str ⟨#[119, 104, 101, 101, 108, 32, 100]⟩)) mNil)))) mNil)))))
  (sSeq (sDrop (mMeth .append (mSlot 1) (mCons (mTup (mCons (mC (.int 5)) (mCons (mTup (mCons (mTup (mCons (mC (.str ⟨#[97]⟩)) (mCons (mC (.str ⟨#[122, 122]⟩)) mNil))) (mCons (mTup (mCons (mC (.str ⟨#[98]⟩)) (mCons (mC (.str ⟨#[121, 121]⟩)) mNil))) (mCons (mTup (mCons (mC (.str ⟨#[99]⟩)) (mCons (mC (.str ⟨#[121, 121]⟩)) mNil))) mNil)))) (mCons (mC (.str ⟨#[116, 119, 105, 99, 101, 32, 121, 121]⟩)) mNil)))) mNil)))
  (sSeq (sAsg (.one 2) (mLc (mSrc (mSlot 1)) [4] (.one 4) mYes (mCall 3 g__law_refusal (mCons (mIx (mSlot 4) (mC (.int 0))) (mCons (mSlot 0) (mCons (mIx (mSlot 4) (mC (.int 1))) mNil))))))
  (sSeq (sAsg (.one 3) (mLc (mSrc (mSlot 1)) [4] (.one 4) mYes (mBin .Add (mMeth .split (mIx (mSlot 4) (mC (.int 2))) (mCons (mC (.str ⟨#[32]⟩)) mNil)) (mLst (mCons (mC (.bl true)) mNil)))))
  (sSeq (sFor (mSrc (mBin .Add (mLc (mSrc (mC (.str ⟨#[97, 98, 99]⟩))) [6] (.one 6) mYes (mTup (mCons (mC (.int 0)) (mCons (mSlot 6) mNil)))) (mLst (mCons (mTup (mCons (mC (.int 4)) (mCons (mTup (mCons (mC (.str ⟨#[122]⟩)) (mCons (mC (.str ⟨#[]⟩)) (mCons (mC (.str ⟨#[]⟩)) (mCons (mC (.int 0)) (mCons (mC (.int 1)) mNil)))))) mNil))) (mCons (mTup (mCons (mC (.int 4)) (mCons (mTup (mCons (mC (.str ⟨#[122]⟩)) (mCons (mC (.str ⟨#[98]⟩)) (mCons (mC (.str ⟨#[98]⟩)) (mCons (mC (.int 0)) (mCons (mC (.int 0)) mNil)))))) mNil))) mNil))))) (.one 4) (sDrop (mMeth .append (mSlot 2) (mCons (mCall 3 g__law_refusal (mCons (mIx (mSlot 4) (mC (.int 0))) (mCons (mSlot 0) (mCons (mIx (mSlot 4) (mC (.int 1))) mNil)))) mNil))))
  (sSeq (sAsg (.one 5) (mTup (mCons (mBin .Add (mIx (mSlot 0) (mC (.int 0))) (mTup (mCons (mTup (mCons (mC (.str ⟨#[100]⟩)) (mCons (mC (.int 5)) (mCons (mC (.int 1)) mNil)))) mNil))) (mCons (mTup mNil) mNil))))
  (sSeq (sDrop (mMeth .append (mSlot 2) (mCons (mCall 3 g__law_refusal (mCons (mC (.int 5)) (mCons (mSlot 5) (mCons (mTup (mCons (mTup (mCons (mC (.str ⟨#[97]⟩)) (mCons (mC (.str ⟨#[122, 122]⟩)) mNil))) (mCons (mTup (mCons (mC (.str ⟨#[98]⟩)) (mCons (mC (.str ⟨#[120, 120]⟩)) mNil))) (mCons (mTup (mCons (mC (.str ⟨#[99]⟩)) (mCons (mC (.str ⟨#[120, 120]⟩)) mNil))) (mCons (mTup (mCons (mC (.str ⟨#[100]⟩)) (mCons (mC (.str ⟨#[122, 122]⟩)) mNil))) mNil))))) mNil)))) mNil)))
  (sSeq (sAsg (.one 2) (mBin .Add (mSlot 2) (mLst (mCons (mCall 3 g__law_refusal (mCons (mC (.int 3)) (mCons (mSlot 0) (mCons (mTup (mCons (mC (.str ⟨#[112]⟩)) (mCons (mC (.int 3)) (mCons (mC (.int 1)) mNil)))) mNil)))) (mCons (mCall 3 g__law_refusal (mCons (mC (.int 4)) (mCons (mSlot 0) (mCons (mTup (mCons (mC (.str ⟨#[98]⟩)) (mCons (mC (.str ⟨#[97]⟩)) (mCons (mC (.str ⟨#[99]⟩)) (mCons (mC (.int 0)) (mCons (mC (.int 1)) mNil)))))) mNil)))) mNil)))))
  (sSeq (sAsg (.one 3) (mBin .Add (mBin .Add (mSlot 3) (mBin .Mult (mLst (mCons (mLst (mCons (mC (.str ⟨#[117, 110, 102, 105, 116]⟩)) (mCons (mC (.bl true)) mNil))) mNil)) (mC (.int 5)))) (mLst (mCons (mLst (mCons (mC (.str ⟨#[116, 119, 105, 99, 101]⟩)) (mCons (mC (.str ⟨#[120, 120]⟩)) (mCons (mC (.bl true)) mNil)))) (mCons (mTup (mCons (mBin .Add (mIx (mSlot 0) (mC (.int 0))) (mTup (mCons (mTup (mCons (mC (.str ⟨#[112]⟩)) (mCons (mC (.int 3)) (mCons (mC (.int 1)) mNil)))) mNil))) (mCons (mIx (mSlot 0) (mC (.int 1))) mNil))) mNil)))))
  (sRet (mCall 2 g__law_same (mCons (mSlot 2) (mCons (mBin .Add (mSlot 3) (mLst (mCons (mTup (mCons (mIx (mSlot 0) (mC (.int 0))) (mCons (mBin .Add (mTup (mCons (mTup (mCons (mC (.str ⟨#[98]⟩)) (mCons (mC (.str ⟨#[97]⟩)) (mCons (mC (.str ⟨#[99]⟩)) (mCons (mC (.int 0)) (mCons (mC (.int 1)) mNil)))))) mNil)) (mIx (mSlot 0) (mC (.int 1)))) mNil))) mNil))) mNil))))))))))))))))))))
theorem r_law_refused_right (g__law_refusal : Fn) (g__law_same : Fn) : sv (c_law_refused_right g__law_refusal g__law_same) (ev (c_law_refused_right g__law_refusal g__law_same) 90) ⟨defScope (topS 59), fun _ => true⟩ 90 (defBody (topS 59)) = b_law_refused_right g__law_refusal g__law_same := by rfl
abbrev n_law_soft_right : List Str := [⟨#[95, 108, 97, 119, 95, 107, 105, 116, 95, 104, 101, 114, 101]⟩, ⟨#[95, 108, 97, 119, 95, 103, 111, 116]⟩, ⟨#[95, 108, 97, 119, 95, 100, 117, 101]⟩, ⟨#[95, 108, 97, 119, 95, 115, 111, 102, 116]⟩, ⟨#[95, 108, 97, 119, 95, 110, 111, 116, 101, 95, 115, 111]⟩]
def c_law_soft_right (g__law_lists : Fn) (g__law_same : Fn) (g_renamed : Fn) (g_shifted : Fn) (g_tidied : Fn) (g_turned_saying : Fn) (g_with_saying : Fn) (g_with_wheel : Fn) (g_without_saying : Fn) (g_without_wheel : Fn) : Cfg := mkC n_law_soft_right [(⟨#[95, 108, 97, 119, 95, 108, 105, 115, 116, 115]⟩, 1, g__law_lists), (⟨#[95, 108, 97, 119, 95, 115, 97, 109, 101]⟩, 2, g__law_same), (⟨#[114, 101, 110, 97, 109, 101, 100]⟩, 2, g_renamed), (⟨#[115, 104, 105, 102, 116, 101, 100]⟩, 3, g_shifted), (⟨#[116, 105, 100, 105, 101, 100]⟩, 1, g_tidied), (⟨#[116, 117, 114, 110, 101, 100, 95, 115, 97, 121, 105, 110, 103]⟩, 2, g_turned_saying), (⟨#[119, 105, 116, 104, 95, 115, 97, 121, 105, 110, 103]⟩, 2, g_with_saying), (⟨#[119, 105, 116, 104, 95, 119, 104, 101, 101, 108]⟩, 2, g_with_wheel), (⟨#[119, 105, 116, 104, 111, 117, 116, 95, 115, 97, 121, 105, 110, 103]⟩, 2, g_without_saying), (⟨#[119, 105, 116, 104, 111, 117, 116, 95, 119, 104, 101, 101, 108]⟩, 2, g_without_wheel)] [((⟨#[114, 101, 110, 97, 109, 101, 100]⟩, [⟨#[112, 97, 105, 114, 115]⟩, ⟨#[109, 105, 108, 108]⟩]), [1, 0]), ((⟨#[115, 104, 105, 102, 116, 101, 100]⟩, [⟨#[116, 105, 99, 107, 115]⟩, ⟨#[110, 97, 109, 101]⟩, ⟨#[109, 105, 108, 108]⟩]), [2, 1, 0]), ((⟨#[116, 105, 100, 105, 101, 100]⟩, [⟨#[109, 105, 108, 108]⟩]), [0]), ((⟨#[116, 117, 114, 110, 101, 100, 95, 115, 97, 121, 105, 110, 103]⟩, [⟨#[110, 97, 109, 101]⟩, ⟨#[109, 105, 108, 108]⟩]), [1, 0]), ((⟨#[119, 105, 116, 104, 95, 115, 97, 121, 105, 110, 103]⟩, [⟨#[115, 97, 121, 105, 110, 103]⟩, ⟨#[109, 105, 108, 108]⟩]), [1, 0]), ((⟨#[119, 105, 116, 104, 95, 119, 104, 101, 101, 108]⟩, [⟨#[119, 104, 101, 101, 108]⟩, ⟨#[109, 105, 108, 108]⟩]), [1, 0]), ((⟨#[119, 105, 116, 104, 111, 117, 116, 95, 115, 97, 121, 105, 110, 103]⟩, [⟨#[110, 97, 109, 101]⟩, ⟨#[109, 105, 108, 108]⟩]), [1, 0]), ((⟨#[119, 105, 116, 104, 111, 117, 116, 95, 119, 104, 101, 101, 108]⟩, [⟨#[110, 97, 109, 101]⟩, ⟨#[109, 105, 108, 108]⟩]), [1, 0])]
def b_law_soft_right (g__law_lists : Fn) (g__law_same : Fn) (g_renamed : Fn) (g_shifted : Fn) (g_tidied : Fn) (g_turned_saying : Fn) (g_with_saying : Fn) (g_with_wheel : Fn) (g_without_saying : Fn) (g_without_wheel : Fn) : StM := (sSeq (sPar [3, 4] (mCons (mCall 1 g__law_lists (mCons (mSlot 0) mNil)) (mCons (mTup (mCons (mC (.str ⟨#[122]⟩)) (mCons (mC (.str ⟨#[97]⟩)) (mCons (mC (.str ⟨#[98]⟩)) (mCons (mC (.int 0)) (mCons (mC (.int 1)) mNil)))))) mNil)))
  (sSeq (sAsg (.one 1) (mLst (mCons (mCallK g_with_wheel [1, 0] (mCons (mLst (mCons (mC (.str ⟨#[100]⟩)) (mCons (mC (.int 2)) (mCons (mC (.int 1)) mNil)))) (mCons (mSlot 3) mNil))) (mCons (mCallK g_with_saying [1, 0] (mCons (mCallB .list (mCons (mSlot 4) mNil)) (mCons (mSlot 3) mNil))) mNil))))
  (sSeq (sAsg (.one 1) (mBin .Add (mSlot 1) (mLst (mCons (mCallK g_without_saying [1, 0] (mCons (mC (.str ⟨#[112]⟩)) (mCons (mSlot 3) mNil))) (mCons (mCallK g_turned_saying [1, 0] (mCons (mC (.str ⟨#[114]⟩)) (mCons (mSlot 3) mNil))) (mCons (mCallK g_tidied [0] (mCons (mTup (mCons (mIx (mSlot 0) (mC (.int 0))) (mCons (mIx (mSlot 3) (mC (.int 1))) mNil))) mNil)) mNil))))))
  (sSeq (sAsg (.one 1) (mBin .Add (mSlot 1) (mLst (mCons (mCallK g_shifted [2, 1, 0] (mCons (mC (.int 2)) (mCons (mC (.str ⟨#[97]⟩)) (mCons (mSlot 3) mNil)))) (mCons (mCallK g_renamed [1, 0] (mCons (mLst (mCons (mLst (mCons (mC (.str ⟨#[97]⟩)) (mCons (mC (.str ⟨#[100]⟩)) mNil))) mNil)) (mCons (mSlot 3) mNil))) mNil)))))
  (sSeq (sAsg (.one 1) (mBin .Add (mSlot 1) (mLst (mCons (mCallK g_without_wheel [1, 0] (mCons (mC (.str ⟨#[97]⟩)) (mCons (mCall 2 g_without_saying (mCons (mCall 2 g_without_saying (mCons (mSlot 3) (mCons (mC (.str ⟨#[112]⟩)) mNil))) (mCons (mC (.str ⟨#[114]⟩)) mNil))) mNil))) (mCons (mSlot 3) mNil)))))
  (sSeq (sAsg (.one 2) (mLst (mCons (mCall 2 g_with_wheel (mCons (mSlot 0) (mCons (mTup (mCons (mC (.str ⟨#[100]⟩)) (mCons (mC (.int 2)) (mCons (mC (.int 1)) mNil)))) mNil))) (mCons (mCall 2 g_with_saying (mCons (mSlot 0) (mCons (mSlot 4) mNil))) (mCons (mCall 2 g_without_saying (mCons (mSlot 0) (mCons (mC (.str ⟨#[112]⟩)) mNil))) (mCons (mCall 2 g_turned_saying (mCons (mSlot 0) (mCons (mC (.str ⟨#[114]⟩)) mNil))) (mCons (mSlot 0) mNil)))))))
  (sRet (mCall 2 g__law_same (mCons (mSlot 1) (mCons (mBin .Add (mSlot 2) (mLst (mCons (mCall 3 g_shifted (mCons (mSlot 0) (mCons (mC (.str ⟨#[97]⟩)) (mCons (mC (.int 2)) mNil)))) (mCons (mCall 2 g_renamed (mCons (mSlot 0) (mCons (mTup (mCons (mTup (mCons (mC (.str ⟨#[97]⟩)) (mCons (mC (.str ⟨#[100]⟩)) mNil))) mNil)) mNil))) (mCons (mTup (mCons (mSl (mIx (mSlot 0) (mC (.int 0))) (mPart (mC (.int 1))) mNoPart) (mCons (mSl (mIx (mSlot 0) (mC (.int 1))) (mPart (mC (.int 1))) (mPart (mC (.int 2)))) mNil))) (mCons (mCall 1 g__law_lists (mCons (mSlot 0) mNil)) mNil)))))) mNil))))))))))
theorem r_law_soft_right (g__law_lists : Fn) (g__law_same : Fn) (g_renamed : Fn) (g_shifted : Fn) (g_tidied : Fn) (g_turned_saying : Fn) (g_with_saying : Fn) (g_with_wheel : Fn) (g_without_saying : Fn) (g_without_wheel : Fn) : sv (c_law_soft_right g__law_lists g__law_same g_renamed g_shifted g_tidied g_turned_saying g_with_saying g_with_wheel g_without_saying g_without_wheel) (ev (c_law_soft_right g__law_lists g__law_same g_renamed g_shifted g_tidied g_turned_saying g_with_saying g_with_wheel g_without_saying g_without_wheel) 90) ⟨defScope (topS 60), fun _ => true⟩ 90 (defBody (topS 60)) = b_law_soft_right g__law_lists g__law_same g_renamed g_shifted g_tidied g_turned_saying g_with_saying g_with_wheel g_without_saying g_without_wheel := by rfl
abbrev n_law_right : List Str := [⟨#[95, 108, 97, 119, 95, 116, 117, 98]⟩, ⟨#[95, 108, 97, 119, 95, 116, 117, 114, 110]⟩, ⟨#[95, 108, 97, 119, 95, 116, 97, 98, 108, 101, 95, 104, 101, 114, 101]⟩, ⟨#[95, 108, 97, 119, 95, 98, 97, 100, 95, 115, 111]⟩, ⟨#[95, 108, 97, 119, 95, 103, 111, 116]⟩, ⟨#[95, 108, 97, 119, 95, 100, 117, 101]⟩, ⟨#[95, 108, 97, 119, 95, 111, 119, 110]⟩, ⟨#[95, 108, 97, 119, 95, 115, 112, 111, 116, 95, 115, 111]⟩, ⟨#[95, 108, 97, 119, 95, 98, 101, 110, 116, 95, 115, 111]⟩, ⟨#[95, 108, 97, 119, 95, 109, 105, 108, 108, 95, 115, 111]⟩, ⟨#[95, 108, 97, 119, 95, 98, 101, 103, 105, 110, 115, 95, 115, 111]⟩, ⟨#[95, 108, 97, 119, 95, 111, 102, 102, 95, 115, 111]⟩]
def c_law_right (g__law_begins : Fn) (g__law_kept : Fn) (g__law_pair : Fn) (g__law_same : Fn) (g__law_table : Fn) (g__law_take : Fn) (g_is_begins : Fn) (g_is_mill : Fn) (g_is_setting : Fn) (g_off_by : Fn) (g_unkept : Fn) : Cfg := mkC n_law_right [(⟨#[95, 108, 97, 119, 95, 98, 101, 103, 105, 110, 115]⟩, 2, g__law_begins), (⟨#[95, 108, 97, 119, 95, 107, 101, 112, 116]⟩, 2, g__law_kept), (⟨#[95, 108, 97, 119, 95, 112, 97, 105, 114]⟩, 3, g__law_pair), (⟨#[95, 108, 97, 119, 95, 115, 97, 109, 101]⟩, 2, g__law_same), (⟨#[95, 108, 97, 119, 95, 116, 97, 98, 108, 101]⟩, 1, g__law_table), (⟨#[95, 108, 97, 119, 95, 116, 97, 107, 101]⟩, 2, g__law_take), (⟨#[105, 115, 95, 98, 101, 103, 105, 110, 115]⟩, 2, g_is_begins), (⟨#[105, 115, 95, 109, 105, 108, 108]⟩, 1, g_is_mill), (⟨#[105, 115, 95, 115, 101, 116, 116, 105, 110, 103]⟩, 2, g_is_setting), (⟨#[111, 102, 102, 95, 98, 121]⟩, 3, g_off_by), (⟨#[117, 110, 107, 101, 112, 116]⟩, 2, g_unkept)] []
def b_law_right (g__law_begins : Fn) (g__law_kept : Fn) (g__law_pair : Fn) (g__law_same : Fn) (g__law_table : Fn) (g__law_take : Fn) (g_is_begins : Fn) (g_is_mill : Fn) (g_is_setting : Fn) (g_off_by : Fn) (g_unkept : Fn) : StM := (sSeq (sFor (mRange (mCons (mC (.int 2)) mNil)) (.one 1) (sSeq (sAsg (.many [9, 10]) (mCall 3 g__law_pair (mCons (mSlot 0) (mCons (mC (.int 4)) (mCons (mC (.int 6)) mNil)))))
  (sSeq (sIf (asB (mCmp .Eq (mCall 2 g__law_take (mCons (mSlot 0) (mCons (mC (.int 3)) mNil))) (mC (.int 0)))) (sAsg (.one 10) (mCall 2 g__law_begins (mCons (mSlot 0) (mCons (mSlot 9) mNil)))) sNil)
  (sSeq (sAsg (.one 2) (mCall 1 g__law_table (mCons (mSlot 10) mNil)))
  (sSeq (sAsg (.one 3) (mCallB .tuple (mCons (mLc (mSrc (mIx (mSlot 9) (mC (.int 1)))) [6] (.one 6) (mNotB (mTru (mCall 2 g__law_kept (mCons (mSlot 2) (mCons (mSlot 6) mNil))))) (mIx (mSlot 6) (mC (.int 0)))) mNil)))
  (sSeq (sAsg (.one 4) (mLst (mCons (mCall 1 g_is_mill (mCons (mSlot 9) mNil)) (mCons (mCall 2 g_is_begins (mCons (mSlot 9) (mCons (mSlot 10) mNil))) (mCons (mCall 2 g_is_setting (mCons (mSlot 9) (mCons (mSlot 10) mNil))) (mCons (mCall 2 g_unkept (mCons (mSlot 9) (mCons (mSlot 10) mNil))) mNil))))))
  (sSeq (sAsg (.one 5) (mLst (mCons (mC (.bl true)) (mCons (mC (.bl true)) (mCons (mCmp .Eq (mSlot 3) (mTup mNil)) (mCons (mSlot 3) mNil))))))
  (sSeq (sFor (mSrc (mIx (mSlot 9) (mC (.int 1)))) (.one 6) (sSeq (sAsg (.one 11) (mCall 3 g_off_by (mCons (mSlot 9) (mCons (mSlot 10) (mCons (mIx (mSlot 6) (mC (.int 0))) mNil)))))
  (sSeq (sAsg (.one 4) (mBin .Add (mSlot 4) (mLst (mCons (mCmp .Eq (mSlot 11) (mC (.int 0))) (mCons (mCall 2 g__law_kept (mCons (mSlot 2) (mCons (mBin .Add (mSl (mSlot 6) mNoPart (mPart (mC (.int 3)))) (mTup (mCons (mBin .Add (mIx (mSlot 6) (mC (.int 3))) (mSlot 11)) (mCons (mIx (mSlot 6) (mC (.int 4))) mNil)))) mNil))) (mCons (mOr (mCmp .Eq (mIx (mSlot 6) (mC (.int 4))) (mC (.int 0))) (mChain .LtE .Lt (mC (.int 0)) (mSlot 11) (mIx (mSlot 6) (mC (.int 4))))) mNil))))))
  (sAsg (.one 5) (mBin .Add (mSlot 5) (mLst (mCons (mCmp .NotIn (mIx (mSlot 6) (mC (.int 0))) (mSlot 3)) (mCons (mC (.bl true)) (mCons (mC (.bl true)) mNil)))))))))
  (sSeq (sAsg (.one 7) (mCall 2 g__law_take (mCons (mSlot 0) (mCons (mCallB .len (mCons (mSlot 10) mNil)) mNil))))
  (sSeq (sAsg (.one 8) (mBin .Add (mSl (mSlot 10) mNoPart (mPart (mSlot 7))) (mSl (mSlot 10) (mPart (mBin .Add (mSlot 7) (mC (.int 1)))) mNoPart)))
  (sSeq (sAsg (.one 4) (mBin .Add (mSlot 4) (mLst (mCons (mCall 2 g_is_begins (mCons (mSlot 9) (mCons (mSlot 8) mNil))) (mCons (mCall 2 g_is_setting (mCons (mSlot 9) (mCons (mSlot 8) mNil))) (mCons (mCall 1 g_is_mill (mCons (mTup (mCons (mIx (mSlot 9) (mC (.int 0))) (mCons (mBin .Mult (mIx (mSlot 9) (mC (.int 1))) (mC (.int 2))) mNil))) mNil)) mNil))))))
  (sSeq (sAsg (.one 5) (mBin .Add (mSlot 5) (mLst (mCons (mC (.bl false)) (mCons (mC (.bl false)) (mCons (mCmp .Eq (mIx (mSlot 9) (mC (.int 1))) (mTup mNil)) mNil))))))
  (sIf (mNotB (mTru (mCall 2 g__law_same (mCons (mSlot 4) (mCons (mSlot 5) mNil))))) (sRet (mC (.bl false))) sNil)))))))))))))
  (sRet (mC (.bl true))))
theorem r_law_right (g__law_begins : Fn) (g__law_kept : Fn) (g__law_pair : Fn) (g__law_same : Fn) (g__law_table : Fn) (g__law_take : Fn) (g_is_begins : Fn) (g_is_mill : Fn) (g_is_setting : Fn) (g_off_by : Fn) (g_unkept : Fn) : sv (c_law_right g__law_begins g__law_kept g__law_pair g__law_same g__law_table g__law_take g_is_begins g_is_mill g_is_setting g_off_by g_unkept) (ev (c_law_right g__law_begins g__law_kept g__law_pair g__law_same g__law_table g__law_take g_is_begins g_is_mill g_is_setting g_off_by g_unkept) 90) ⟨defScope (topS 61), fun _ => true⟩ 90 (defBody (topS 61)) = b_law_right g__law_begins g__law_kept g__law_pair g__law_same g__law_table g__law_take g_is_begins g_is_mill g_is_setting g_off_by g_unkept := by rfl
abbrev nlaw : List Str := [⟨#[95, 108, 97, 119, 95, 115, 99, 114, 105, 112, 116]⟩, ⟨#[95, 108, 97, 119, 95, 99, 101, 108, 108, 115, 95, 115, 111]⟩, ⟨#[95, 108, 97, 119, 95, 107]⟩]
def claw (g__law_box : Fn) (g__law_by_hand_right : Fn) (g__law_cells : Fn) (g__law_right : Fn) : Cfg := mkC nlaw [(⟨#[95, 108, 97, 119, 95, 98, 111, 120]⟩, 2, g__law_box), (⟨#[95, 108, 97, 119, 95, 98, 121, 95, 104, 97, 110, 100, 95, 114, 105, 103, 104, 116]⟩, 0, g__law_by_hand_right), (⟨#[95, 108, 97, 119, 95, 99, 101, 108, 108, 115]⟩, 2, g__law_cells), (⟨#[95, 108, 97, 119, 95, 114, 105, 103, 104, 116]⟩, 1, g__law_right)] []
def blaw (g__law_box : Fn) (g__law_by_hand_right : Fn) (g__law_cells : Fn) (g__law_right : Fn) : StM := (sSeq (sIf (mNotB (mTru (mCall 0 g__law_by_hand_right mNil))) (sRet (mC (.bl false))) sNil)
  (sSeq (sAsg (.one 1) (mCall 2 g__law_cells (mCons (mSlot 0) (mCons (mC (.int 3)) mNil))))
  (sRet (mCallB .all (mCons (mLc (mRange (mCons (mCallB .len (mCons (mSlot 1) mNil)) mNil)) [2] (.one 2) mYes (mCall 1 g__law_right (mCons (mCall 2 g__law_box (mCons (mSlot 1) (mCons (mSlot 2) mNil))) mNil))) mNil)))))
theorem rlaw (g__law_box : Fn) (g__law_by_hand_right : Fn) (g__law_cells : Fn) (g__law_right : Fn) : sv (claw g__law_box g__law_by_hand_right g__law_cells g__law_right) (ev (claw g__law_box g__law_by_hand_right g__law_cells g__law_right) 90) ⟨defScope (topS 62), fun _ => true⟩ 90 (defBody (topS 62)) = blaw g__law_box g__law_by_hand_right g__law_cells g__law_right := by rfl
end K00
set_option Elab.async false
set_option linter.all false
set_option maxRecDepth 100000
set_option maxHeartbeats 4000000
namespace K00
open PySem PySem.Spec PyProof.Rows L2 Dp
def f_tupled : Nat → Fn
  | 0 => fun _ _ => .bad
  | k + 1 => runF 1 2 (btupled (f_tupled k))
def f_is_number : Fn := runF 1 1 (bis_number)
def f_is_name : Fn := runF 1 2 (bis_name)
def f_is_row : Fn := runF 2 2 (bis_row)
def f_ascends : Fn := runF 1 2 (bascends)
def f_wheel_names : Fn := runF 1 2 (bwheel_names)
def f_end_names : Fn := runF 1 1 (bend_names f_wheel_names)
def f_saying_names : Fn := runF 1 2 (bsaying_names)
def f_need_wheel : Fn := runF 2 2 (bneed_wheel f_wheel_names)
def f_need_end : Fn := runF 2 2 (bneed_end f_end_names)
def f_saying_called : Fn := runF 2 3 (bsaying_called)
def f_is_wheel : Fn := runF 1 1 (bis_wheel f_is_name f_is_number f_is_row)
def f_is_saying : Fn := runF 2 7 (bis_saying f_is_name f_is_number f_is_row)
def f_is_mill : Fn := runF 1 7 (bis_mill f_ascends f_end_names f_is_row f_is_saying f_is_wheel f_saying_names f_wheel_names)
def f_is_begins : Fn := runF 2 5 (bis_begins f_is_number f_is_row f_wheel_names)
def f_begin_table : Fn := runF 1 4 (bbegin_table)
def f_how_far_off : Fn := runF 2 8 (bhow_far_off)
def f_unkept : Fn := runF 2 4 (bunkept f_begin_table f_how_far_off)
def f_is_setting : Fn := runF 2 2 (bis_setting f_is_begins f_unkept)
def f_off_by : Fn := runF 3 3 (boff_by f_begin_table f_how_far_off f_saying_called)
def f_with_wheel : Fn := runF 2 4 (bwith_wheel (f_tupled 14) f_wheel_names)
def f_without_wheel : Fn := runF 2 8 (bwithout_wheel f_need_wheel (f_tupled 14))
def f_with_saying : Fn := runF 2 8 (bwith_saying f_need_end f_saying_names (f_tupled 14))
def f_without_saying : Fn := runF 2 6 (bwithout_saying f_saying_called (f_tupled 14))
def f_turned_saying : Fn := runF 2 11 (bturned_saying f_saying_called (f_tupled 14))
def f_tidy_saying : Fn := runF 1 6 (btidy_saying)
def f_tidied : Fn := runF 1 4 (btidied f_tidy_saying (f_tupled 14))
def f_shifted_saying : Fn := runF 3 8 (bshifted_saying)
def f_shifted : Fn := runF 3 6 (bshifted f_need_wheel f_shifted_saying (f_tupled 14))
def f_renamed : Fn := runF 2 18 (brenamed f_end_names f_need_wheel (f_tupled 14))
def f__law_box : Fn := runF 2 3 (b_law_box)
def f__law_take : Fn := runF 2 6 (b_law_take)
def f__law_cells : Fn := runF 2 6 (b_law_cells)
def f__law_pick : Fn := runF 3 6 (b_law_pick f__law_take)
def f__law_same : Nat → Fn
  | 0 => fun _ _ => .bad
  | k + 1 => runF 2 5 (b_law_same (f__law_same k))
def f__law_lists : Nat → Fn
  | 0 => fun _ _ => .bad
  | k + 1 => runF 1 2 (b_law_lists (f__law_lists k))
def f__law_half : Fn := runF 1 2 (b_law_half (f__law_lists 14))
def f__law_wheels : Fn := runF 2 6 (b_law_wheels f__law_pick f__law_take)
def f__law_kept : Fn := runF 2 3 (b_law_kept)
def f__law_begins : Fn := runF 2 3 (b_law_begins f__law_take)
def f__law_table : Fn := runF 1 2 (b_law_table)
def f__law_kit : Fn := runF 0 1 (b_law_kit)
def f__law_pair : Fn := runF 3 15 (b_law_pair f__law_pick f__law_take f__law_wheels)
def f__law_heard : Fn := runF 3 6 (b_law_heard f_off_by)
def f__law_begins_right : Fn := runF 1 10 (b_law_begins_right (f__law_lists 14) (f__law_same 14) f_is_begins f_is_mill f_is_setting)
def f__law_refusal : Fn := runF 3 7 (b_law_refusal f_renamed f_shifted f_turned_saying f_with_saying f_with_wheel f_without_saying f_without_wheel)
def f__law_refused_right : Fn := runF 1 7 (b_law_refused_right f__law_refusal (f__law_same 14))
def f__law_soft_right : Fn := runF 1 5 (b_law_soft_right (f__law_lists 14) (f__law_same 14) f_renamed f_shifted f_tidied f_turned_saying f_with_saying f_with_wheel f_without_saying f_without_wheel)
def f__law_changed_right : Fn := runF 0 7 (b_law_changed_right f__law_kit f__law_refused_right (f__law_same 14) f__law_soft_right f_renamed f_shifted f_tidied f_turned_saying f_with_saying f_with_wheel f_without_saying f_without_wheel)
def f__law_off_right : Fn := runF 2 12 (b_law_off_right f__law_half f__law_heard (f__law_lists 14) (f__law_same 14) f_off_by f_unkept)
def f__law_by_hand_right : Fn := runF 0 12 (b_law_by_hand_right f__law_begins_right f__law_changed_right f__law_kit f__law_off_right (f__law_same 14) f_is_mill)
def f__law_right : Fn := runF 1 12 (b_law_right f__law_begins f__law_kept f__law_pair (f__law_same 14) f__law_table f__law_take f_is_begins f_is_mill f_is_setting f_off_by f_unkept)
def f_law : Fn := runF 1 3 (blaw f__law_box f__law_by_hand_right f__law_cells f__law_right)
def kwTbl : List (Str × List (List Str × List Nat)) := [(⟨#[105, 115, 95, 98, 101, 103, 105, 110, 115]⟩, [([⟨#[109, 105, 108, 108]⟩, ⟨#[116, 104, 105, 110, 103]⟩], [0, 1])]), (⟨#[105, 115, 95, 109, 105, 108, 108]⟩, [([⟨#[116, 104, 105, 110, 103]⟩], [0])]), (⟨#[105, 115, 95, 115, 101, 116, 116, 105, 110, 103]⟩, [([⟨#[109, 105, 108, 108]⟩, ⟨#[116, 104, 105, 110, 103]⟩], [0, 1])]), (⟨#[111, 102, 102, 95, 98, 121]⟩, [([⟨#[110, 97, 109, 101]⟩, ⟨#[98, 101, 103, 105, 110, 115]⟩, ⟨#[109, 105, 108, 108]⟩], [2, 1, 0])]), (⟨#[114, 101, 110, 97, 109, 101, 100]⟩, [([⟨#[112, 97, 105, 114, 115]⟩, ⟨#[109, 105, 108, 108]⟩], [1, 0])]), (⟨#[115, 104, 105, 102, 116, 101, 100]⟩, [([⟨#[116, 105, 99, 107, 115]⟩, ⟨#[110, 97, 109, 101]⟩, ⟨#[109, 105, 108, 108]⟩], [2, 1, 0])]), (⟨#[116, 105, 100, 105, 101, 100]⟩, [([⟨#[109, 105, 108, 108]⟩], [0])]), (⟨#[116, 117, 114, 110, 101, 100, 95, 115, 97, 121, 105, 110, 103]⟩, [([⟨#[110, 97, 109, 101]⟩, ⟨#[109, 105, 108, 108]⟩], [1, 0])]), (⟨#[117, 110, 107, 101, 112, 116]⟩, [([⟨#[98, 101, 103, 105, 110, 115]⟩, ⟨#[109, 105, 108, 108]⟩], [1, 0])]), (⟨#[119, 105, 116, 104, 95, 115, 97, 121, 105, 110, 103]⟩, [([⟨#[115, 97, 121, 105, 110, 103]⟩, ⟨#[109, 105, 108, 108]⟩], [1, 0])]), (⟨#[119, 105, 116, 104, 95, 119, 104, 101, 101, 108]⟩, [([⟨#[119, 104, 101, 101, 108]⟩, ⟨#[109, 105, 108, 108]⟩], [1, 0])]), (⟨#[119, 105, 116, 104, 111, 117, 116, 95, 115, 97, 121, 105, 110, 103]⟩, [([⟨#[110, 97, 109, 101]⟩, ⟨#[109, 105, 108, 108]⟩], [1, 0])]), (⟨#[119, 105, 116, 104, 111, 117, 116, 95, 119, 104, 101, 101, 108]⟩, [([⟨#[110, 97, 109, 101]⟩, ⟨#[109, 105, 108, 108]⟩], [1, 0])])]
def kt : KwT := fun x => (List.lookup x kwTbl).getD []
abbrev BaseK (P : Program) (w : World) (K : PySem.W.Frag) (mg : Str → Option Value) : Prop := Base P w K mg (fun x => List.lookup x glT) (fun x => List.lookup x biT) (fun x => frT.contains x) (fun x => List.lookup x rsT) (fun x => xnT.contains x) (fun x y => List.lookup (x, y) xmT) (fun x f => xfT.contains (x, f)) (fun x y => List.lookup (x, y) xiT)
structure Defs (K : PySem.W.Frag) (mg : Str → Option Value) : Prop where
  d8 : DefAt K mg ⟨#[116, 117, 112, 108, 101, 100]⟩ (topS 8)
  d9 : DefAt K mg ⟨#[105, 115, 95, 110, 117, 109, 98, 101, 114]⟩ (topS 9)
  d10 : DefAt K mg ⟨#[105, 115, 95, 110, 97, 109, 101]⟩ (topS 10)
  d11 : DefAt K mg ⟨#[105, 115, 95, 114, 111, 119]⟩ (topS 11)
  d12 : DefAt K mg ⟨#[97, 115, 99, 101, 110, 100, 115]⟩ (topS 12)
  d13 : DefAt K mg ⟨#[119, 104, 101, 101, 108, 95, 110, 97, 109, 101, 115]⟩ (topS 13)
  d14 : DefAt K mg ⟨#[101, 110, 100, 95, 110, 97, 109, 101, 115]⟩ (topS 14)
  d15 : DefAt K mg ⟨#[115, 97, 121, 105, 110, 103, 95, 110, 97, 109, 101, 115]⟩ (topS 15)
  d16 : DefAt K mg ⟨#[110, 101, 101, 100, 95, 119, 104, 101, 101, 108]⟩ (topS 16)
  d17 : DefAt K mg ⟨#[110, 101, 101, 100, 95, 101, 110, 100]⟩ (topS 17)
  d18 : DefAt K mg ⟨#[115, 97, 121, 105, 110, 103, 95, 99, 97, 108, 108, 101, 100]⟩ (topS 18)
  d20 : DefAt K mg ⟨#[105, 115, 95, 119, 104, 101, 101, 108]⟩ (topS 20)
  d21 : DefAt K mg ⟨#[105, 115, 95, 115, 97, 121, 105, 110, 103]⟩ (topS 21)
  d22 : DefAt K mg ⟨#[105, 115, 95, 109, 105, 108, 108]⟩ (topS 22)
  d23 : DefAt K mg ⟨#[105, 115, 95, 98, 101, 103, 105, 110, 115]⟩ (topS 23)
  d24 : DefAt K mg ⟨#[105, 115, 95, 115, 101, 116, 116, 105, 110, 103]⟩ (topS 24)
  d25 : DefAt K mg ⟨#[98, 101, 103, 105, 110, 95, 116, 97, 98, 108, 101]⟩ (topS 25)
  d26 : DefAt K mg ⟨#[104, 111, 119, 95, 102, 97, 114, 95, 111, 102, 102]⟩ (topS 26)
  d27 : DefAt K mg ⟨#[111, 102, 102, 95, 98, 121]⟩ (topS 27)
  d28 : DefAt K mg ⟨#[117, 110, 107, 101, 112, 116]⟩ (topS 28)
  d29 : DefAt K mg ⟨#[119, 105, 116, 104, 95, 119, 104, 101, 101, 108]⟩ (topS 29)
  d30 : DefAt K mg ⟨#[119, 105, 116, 104, 111, 117, 116, 95, 119, 104, 101, 101, 108]⟩ (topS 30)
  d31 : DefAt K mg ⟨#[119, 105, 116, 104, 95, 115, 97, 121, 105, 110, 103]⟩ (topS 31)
  d32 : DefAt K mg ⟨#[119, 105, 116, 104, 111, 117, 116, 95, 115, 97, 121, 105, 110, 103]⟩ (topS 32)
  d33 : DefAt K mg ⟨#[116, 117, 114, 110, 101, 100, 95, 115, 97, 121, 105, 110, 103]⟩ (topS 33)
  d34 : DefAt K mg ⟨#[116, 105, 100, 121, 95, 115, 97, 121, 105, 110, 103]⟩ (topS 34)
  d35 : DefAt K mg ⟨#[116, 105, 100, 105, 101, 100]⟩ (topS 35)
  d36 : DefAt K mg ⟨#[115, 104, 105, 102, 116, 101, 100, 95, 115, 97, 121, 105, 110, 103]⟩ (topS 36)
  d37 : DefAt K mg ⟨#[115, 104, 105, 102, 116, 101, 100]⟩ (topS 37)
  d38 : DefAt K mg ⟨#[114, 101, 110, 97, 109, 101, 100]⟩ (topS 38)
  d40 : DefAt K mg ⟨#[95, 108, 97, 119, 95, 98, 111, 120]⟩ (topS 40)
  d41 : DefAt K mg ⟨#[95, 108, 97, 119, 95, 116, 97, 107, 101]⟩ (topS 41)
  d42 : DefAt K mg ⟨#[95, 108, 97, 119, 95, 99, 101, 108, 108, 115]⟩ (topS 42)
  d43 : DefAt K mg ⟨#[95, 108, 97, 119, 95, 112, 105, 99, 107]⟩ (topS 43)
  d44 : DefAt K mg ⟨#[95, 108, 97, 119, 95, 115, 97, 109, 101]⟩ (topS 44)
  d45 : DefAt K mg ⟨#[95, 108, 97, 119, 95, 108, 105, 115, 116, 115]⟩ (topS 45)
  d46 : DefAt K mg ⟨#[95, 108, 97, 119, 95, 104, 97, 108, 102]⟩ (topS 46)
  d47 : DefAt K mg ⟨#[95, 108, 97, 119, 95, 119, 104, 101, 101, 108, 115]⟩ (topS 47)
  d48 : DefAt K mg ⟨#[95, 108, 97, 119, 95, 107, 101, 112, 116]⟩ (topS 48)
  d49 : DefAt K mg ⟨#[95, 108, 97, 119, 95, 98, 101, 103, 105, 110, 115]⟩ (topS 49)
  d50 : DefAt K mg ⟨#[95, 108, 97, 119, 95, 116, 97, 98, 108, 101]⟩ (topS 50)
  d51 : DefAt K mg ⟨#[95, 108, 97, 119, 95, 107, 105, 116]⟩ (topS 51)
  d52 : DefAt K mg ⟨#[95, 108, 97, 119, 95, 112, 97, 105, 114]⟩ (topS 52)
  d53 : DefAt K mg ⟨#[95, 108, 97, 119, 95, 104, 101, 97, 114, 100]⟩ (topS 53)
  d54 : DefAt K mg ⟨#[95, 108, 97, 119, 95, 98, 121, 95, 104, 97, 110, 100, 95, 114, 105, 103, 104, 116]⟩ (topS 54)
  d55 : DefAt K mg ⟨#[95, 108, 97, 119, 95, 98, 101, 103, 105, 110, 115, 95, 114, 105, 103, 104, 116]⟩ (topS 55)
  d56 : DefAt K mg ⟨#[95, 108, 97, 119, 95, 111, 102, 102, 95, 114, 105, 103, 104, 116]⟩ (topS 56)
  d57 : DefAt K mg ⟨#[95, 108, 97, 119, 95, 114, 101, 102, 117, 115, 97, 108]⟩ (topS 57)
  d58 : DefAt K mg ⟨#[95, 108, 97, 119, 95, 99, 104, 97, 110, 103, 101, 100, 95, 114, 105, 103, 104, 116]⟩ (topS 58)
  d59 : DefAt K mg ⟨#[95, 108, 97, 119, 95, 114, 101, 102, 117, 115, 101, 100, 95, 114, 105, 103, 104, 116]⟩ (topS 59)
  d60 : DefAt K mg ⟨#[95, 108, 97, 119, 95, 115, 111, 102, 116, 95, 114, 105, 103, 104, 116]⟩ (topS 60)
  d61 : DefAt K mg ⟨#[95, 108, 97, 119, 95, 114, 105, 103, 104, 116]⟩ (topS 61)
  d62 : DefAt K mg ⟨#[108, 97, 119]⟩ (topS 62)
section
variable {P : Program} {w : World} {K : PySem.W.Frag} {mg : Str → Option Value} {base : Heap}
theorem s_tupled : FnScope ntupled [⟨#[118, 97, 108, 117, 101]⟩] (defScope (topS 8)) := ⟨rfl, rfl, rfl, by decide +kernel, rfl, by decide +kernel, by decide +kernel⟩
theorem v_tupled : ∀ y ∈ ntupled, (y == ("__debug__" : Str)) = false ∧ (y == ("__classdict__" : Str)) = false := by decide +kernel
theorem a_tupled : BindOk K ⟨#[116, 117, 112, 108, 101, 100]⟩ (topS 8) [⟨#[118, 97, 108, 117, 101]⟩] := fun a fd F => F.binds fun _ _ _ _ _ _ us hl => match us, hl with | [_], _ => rfl
theorem k_tupled : KwsOk K ⟨#[116, 117, 112, 108, 101, 100]⟩ (topS 8) [⟨#[118, 97, 108, 117, 101]⟩] (kt ⟨#[116, 117, 112, 108, 101, 100]⟩) := by
  have e0 : kt ⟨#[116, 117, 112, 108, 101, 100]⟩ = [] := by rfl
  rw [e0]
  intro a fd F
  intro e h
  cases h
theorem ok_tupled (B : BaseK P w K mg) (D : Defs K mg) : ∀ j : Nat, CalOk P w K mg base kt (0 + j) ⟨#[116, 117, 112, 108, 101, 100]⟩ 1 (f_tupled j)
  | 0 => cal_bad D.d8 a_tupled k_tupled (by decide +kernel) rfl
  | j + 1 => cal_of (c := ctupled (f_tupled j)) (k := 0 + j) D.d8 s_tupled v_tupled (lib_of (kt := kt) (base := base) B (List.forall_mem_cons.mpr ⟨ok_tupled B D j, fun e h => by cases h⟩) (fun e h => by cases h)) (rtupled (f_tupled j)) a_tupled k_tupled (by decide +kernel) rfl rfl
theorem s_is_number : FnScope nis_number [⟨#[116, 104, 105, 110, 103]⟩] (defScope (topS 9)) := ⟨rfl, rfl, rfl, by decide +kernel, rfl, by decide +kernel, by decide +kernel⟩
theorem v_is_number : ∀ y ∈ nis_number, (y == ("__debug__" : Str)) = false ∧ (y == ("__classdict__" : Str)) = false := by decide +kernel
theorem a_is_number : BindOk K ⟨#[105, 115, 95, 110, 117, 109, 98, 101, 114]⟩ (topS 9) [⟨#[116, 104, 105, 110, 103]⟩] := fun a fd F => F.binds fun _ _ _ _ _ _ us hl => match us, hl with | [_], _ => rfl
theorem k_is_number : KwsOk K ⟨#[105, 115, 95, 110, 117, 109, 98, 101, 114]⟩ (topS 9) [⟨#[116, 104, 105, 110, 103]⟩] (kt ⟨#[105, 115, 95, 110, 117, 109, 98, 101, 114]⟩) := by
  have e0 : kt ⟨#[105, 115, 95, 110, 117, 109, 98, 101, 114]⟩ = [] := by rfl
  rw [e0]
  intro a fd F
  intro e h
  cases h
theorem ok_is_number (B : BaseK P w K mg) (D : Defs K mg) : CalOk P w K mg base kt 1 ⟨#[105, 115, 95, 110, 117, 109, 98, 101, 114]⟩ 1 f_is_number :=
  cal_of (c := cis_number) (k := 0) D.d9 s_is_number v_is_number (lib_of (kt := kt) (base := base) B (fun e h => by cases h) (fun e h => by cases h)) (ris_number) a_is_number k_is_number (by decide +kernel) rfl rfl
theorem s_is_name : FnScope nis_name [⟨#[116, 104, 105, 110, 103]⟩] (defScope (topS 10)) := ⟨rfl, rfl, rfl, by decide +kernel, rfl, by decide +kernel, by decide +kernel⟩
theorem v_is_name : ∀ y ∈ nis_name, (y == ("__debug__" : Str)) = false ∧ (y == ("__classdict__" : Str)) = false := by decide +kernel
theorem a_is_name : BindOk K ⟨#[105, 115, 95, 110, 97, 109, 101]⟩ (topS 10) [⟨#[116, 104, 105, 110, 103]⟩] := fun a fd F => F.binds fun _ _ _ _ _ _ us hl => match us, hl with | [_], _ => rfl
theorem k_is_name : KwsOk K ⟨#[105, 115, 95, 110, 97, 109, 101]⟩ (topS 10) [⟨#[116, 104, 105, 110, 103]⟩] (kt ⟨#[105, 115, 95, 110, 97, 109, 101]⟩) := by
  have e0 : kt ⟨#[105, 115, 95, 110, 97, 109, 101]⟩ = [] := by rfl
  rw [e0]
  intro a fd F
  intro e h
  cases h
theorem ok_is_name (B : BaseK P w K mg) (D : Defs K mg) : CalOk P w K mg base kt 1 ⟨#[105, 115, 95, 110, 97, 109, 101]⟩ 1 f_is_name :=
  cal_of (c := cis_name) (k := 0) D.d10 s_is_name v_is_name (lib_of (kt := kt) (base := base) B (fun e h => by cases h) (fun e h => by cases h)) (ris_name) a_is_name k_is_name (by decide +kernel) rfl rfl
theorem s_is_row : FnScope nis_row [⟨#[116, 104, 105, 110, 103]⟩, ⟨#[108, 101, 110, 103, 116, 104]⟩] (defScope (topS 11)) := ⟨rfl, rfl, rfl, by decide +kernel, rfl, by decide +kernel, by decide +kernel⟩
theorem v_is_row : ∀ y ∈ nis_row, (y == ("__debug__" : Str)) = false ∧ (y == ("__classdict__" : Str)) = false := by decide +kernel
theorem a_is_row : BindOk K ⟨#[105, 115, 95, 114, 111, 119]⟩ (topS 11) [⟨#[116, 104, 105, 110, 103]⟩, ⟨#[108, 101, 110, 103, 116, 104]⟩] := fun a fd F => F.binds fun _ _ _ _ _ _ us hl => match us, hl with | [_, _], _ => rfl
theorem k_is_row : KwsOk K ⟨#[105, 115, 95, 114, 111, 119]⟩ (topS 11) [⟨#[116, 104, 105, 110, 103]⟩, ⟨#[108, 101, 110, 103, 116, 104]⟩] (kt ⟨#[105, 115, 95, 114, 111, 119]⟩) := by
  have e0 : kt ⟨#[105, 115, 95, 114, 111, 119]⟩ = [] := by rfl
  rw [e0]
  intro a fd F
  intro e h
  cases h
theorem ok_is_row (B : BaseK P w K mg) (D : Defs K mg) : CalOk P w K mg base kt 1 ⟨#[105, 115, 95, 114, 111, 119]⟩ 2 f_is_row :=
  cal_of (c := cis_row) (k := 0) D.d11 s_is_row v_is_row (lib_of (kt := kt) (base := base) B (fun e h => by cases h) (fun e h => by cases h)) (ris_row) a_is_row k_is_row (by decide +kernel) rfl rfl
theorem s_ascends : FnScope nascends [⟨#[116, 104, 105, 110, 103, 115]⟩] (defScope (topS 12)) := ⟨rfl, rfl, rfl, by decide +kernel, rfl, by decide +kernel, by decide +kernel⟩
theorem v_ascends : ∀ y ∈ nascends, (y == ("__debug__" : Str)) = false ∧ (y == ("__classdict__" : Str)) = false := by decide +kernel
theorem a_ascends : BindOk K ⟨#[97, 115, 99, 101, 110, 100, 115]⟩ (topS 12) [⟨#[116, 104, 105, 110, 103, 115]⟩] := fun a fd F => F.binds fun _ _ _ _ _ _ us hl => match us, hl with | [_], _ => rfl
theorem k_ascends : KwsOk K ⟨#[97, 115, 99, 101, 110, 100, 115]⟩ (topS 12) [⟨#[116, 104, 105, 110, 103, 115]⟩] (kt ⟨#[97, 115, 99, 101, 110, 100, 115]⟩) := by
  have e0 : kt ⟨#[97, 115, 99, 101, 110, 100, 115]⟩ = [] := by rfl
  rw [e0]
  intro a fd F
  intro e h
  cases h
theorem ok_ascends (B : BaseK P w K mg) (D : Defs K mg) : CalOk P w K mg base kt 1 ⟨#[97, 115, 99, 101, 110, 100, 115]⟩ 1 f_ascends :=
  cal_of (c := cascends) (k := 0) D.d12 s_ascends v_ascends (lib_of (kt := kt) (base := base) B (fun e h => by cases h) (fun e h => by cases h)) (rascends) a_ascends k_ascends (by decide +kernel) rfl rfl
theorem s_wheel_names : FnScope nwheel_names [⟨#[109, 105, 108, 108]⟩] (defScope (topS 13)) := ⟨rfl, rfl, rfl, by decide +kernel, rfl, by decide +kernel, by decide +kernel⟩
theorem v_wheel_names : ∀ y ∈ nwheel_names, (y == ("__debug__" : Str)) = false ∧ (y == ("__classdict__" : Str)) = false := by decide +kernel
theorem a_wheel_names : BindOk K ⟨#[119, 104, 101, 101, 108, 95, 110, 97, 109, 101, 115]⟩ (topS 13) [⟨#[109, 105, 108, 108]⟩] := fun a fd F => F.binds fun _ _ _ _ _ _ us hl => match us, hl with | [_], _ => rfl
theorem k_wheel_names : KwsOk K ⟨#[119, 104, 101, 101, 108, 95, 110, 97, 109, 101, 115]⟩ (topS 13) [⟨#[109, 105, 108, 108]⟩] (kt ⟨#[119, 104, 101, 101, 108, 95, 110, 97, 109, 101, 115]⟩) := by
  have e0 : kt ⟨#[119, 104, 101, 101, 108, 95, 110, 97, 109, 101, 115]⟩ = [] := by rfl
  rw [e0]
  intro a fd F
  intro e h
  cases h
theorem ok_wheel_names (B : BaseK P w K mg) (D : Defs K mg) : CalOk P w K mg base kt 1 ⟨#[119, 104, 101, 101, 108, 95, 110, 97, 109, 101, 115]⟩ 1 f_wheel_names :=
  cal_of (c := cwheel_names) (k := 0) D.d13 s_wheel_names v_wheel_names (lib_of (kt := kt) (base := base) B (fun e h => by cases h) (fun e h => by cases h)) (rwheel_names) a_wheel_names k_wheel_names (by decide +kernel) rfl rfl
theorem s_end_names : FnScope nend_names [⟨#[109, 105, 108, 108]⟩] (defScope (topS 14)) := ⟨rfl, rfl, rfl, by decide +kernel, rfl, by decide +kernel, by decide +kernel⟩
theorem v_end_names : ∀ y ∈ nend_names, (y == ("__debug__" : Str)) = false ∧ (y == ("__classdict__" : Str)) = false := by decide +kernel
theorem a_end_names : BindOk K ⟨#[101, 110, 100, 95, 110, 97, 109, 101, 115]⟩ (topS 14) [⟨#[109, 105, 108, 108]⟩] := fun a fd F => F.binds fun _ _ _ _ _ _ us hl => match us, hl with | [_], _ => rfl
theorem k_end_names : KwsOk K ⟨#[101, 110, 100, 95, 110, 97, 109, 101, 115]⟩ (topS 14) [⟨#[109, 105, 108, 108]⟩] (kt ⟨#[101, 110, 100, 95, 110, 97, 109, 101, 115]⟩) := by
  have e0 : kt ⟨#[101, 110, 100, 95, 110, 97, 109, 101, 115]⟩ = [] := by rfl
  rw [e0]
  intro a fd F
  intro e h
  cases h
theorem ok_end_names (B : BaseK P w K mg) (D : Defs K mg) : CalOk P w K mg base kt 2 ⟨#[101, 110, 100, 95, 110, 97, 109, 101, 115]⟩ 1 f_end_names :=
  cal_of (c := cend_names f_wheel_names) (k := 1) D.d14 s_end_names v_end_names (lib_of (kt := kt) (base := base) B (List.forall_mem_cons.mpr ⟨(ok_wheel_names B D).mono (by omega), fun e h => by cases h⟩) (fun e h => by cases h)) (rend_names f_wheel_names) a_end_names k_end_names (by decide +kernel) rfl rfl
theorem s_saying_names : FnScope nsaying_names [⟨#[109, 105, 108, 108]⟩] (defScope (topS 15)) := ⟨rfl, rfl, rfl, by decide +kernel, rfl, by decide +kernel, by decide +kernel⟩
theorem v_saying_names : ∀ y ∈ nsaying_names, (y == ("__debug__" : Str)) = false ∧ (y == ("__classdict__" : Str)) = false := by decide +kernel
theorem a_saying_names : BindOk K ⟨#[115, 97, 121, 105, 110, 103, 95, 110, 97, 109, 101, 115]⟩ (topS 15) [⟨#[109, 105, 108, 108]⟩] := fun a fd F => F.binds fun _ _ _ _ _ _ us hl => match us, hl with | [_], _ => rfl
theorem k_saying_names : KwsOk K ⟨#[115, 97, 121, 105, 110, 103, 95, 110, 97, 109, 101, 115]⟩ (topS 15) [⟨#[109, 105, 108, 108]⟩] (kt ⟨#[115, 97, 121, 105, 110, 103, 95, 110, 97, 109, 101, 115]⟩) := by
  have e0 : kt ⟨#[115, 97, 121, 105, 110, 103, 95, 110, 97, 109, 101, 115]⟩ = [] := by rfl
  rw [e0]
  intro a fd F
  intro e h
  cases h
theorem ok_saying_names (B : BaseK P w K mg) (D : Defs K mg) : CalOk P w K mg base kt 1 ⟨#[115, 97, 121, 105, 110, 103, 95, 110, 97, 109, 101, 115]⟩ 1 f_saying_names :=
  cal_of (c := csaying_names) (k := 0) D.d15 s_saying_names v_saying_names (lib_of (kt := kt) (base := base) B (fun e h => by cases h) (fun e h => by cases h)) (rsaying_names) a_saying_names k_saying_names (by decide +kernel) rfl rfl
theorem s_need_wheel : FnScope nneed_wheel [⟨#[109, 105, 108, 108]⟩, ⟨#[110, 97, 109, 101]⟩] (defScope (topS 16)) := ⟨rfl, rfl, rfl, by decide +kernel, rfl, by decide +kernel, by decide +kernel⟩
theorem v_need_wheel : ∀ y ∈ nneed_wheel, (y == ("__debug__" : Str)) = false ∧ (y == ("__classdict__" : Str)) = false := by decide +kernel
theorem a_need_wheel : BindOk K ⟨#[110, 101, 101, 100, 95, 119, 104, 101, 101, 108]⟩ (topS 16) [⟨#[109, 105, 108, 108]⟩, ⟨#[110, 97, 109, 101]⟩] := fun a fd F => F.binds fun _ _ _ _ _ _ us hl => match us, hl with | [_, _], _ => rfl
theorem k_need_wheel : KwsOk K ⟨#[110, 101, 101, 100, 95, 119, 104, 101, 101, 108]⟩ (topS 16) [⟨#[109, 105, 108, 108]⟩, ⟨#[110, 97, 109, 101]⟩] (kt ⟨#[110, 101, 101, 100, 95, 119, 104, 101, 101, 108]⟩) := by
  have e0 : kt ⟨#[110, 101, 101, 100, 95, 119, 104, 101, 101, 108]⟩ = [] := by rfl
  rw [e0]
  intro a fd F
  intro e h
  cases h
theorem ok_need_wheel (B : BaseK P w K mg) (D : Defs K mg) : CalOk P w K mg base kt 2 ⟨#[110, 101, 101, 100, 95, 119, 104, 101, 101, 108]⟩ 2 f_need_wheel :=
  cal_of (c := cneed_wheel f_wheel_names) (k := 1) D.d16 s_need_wheel v_need_wheel (lib_of (kt := kt) (base := base) B (List.forall_mem_cons.mpr ⟨(ok_wheel_names B D).mono (by omega), fun e h => by cases h⟩) (fun e h => by cases h)) (rneed_wheel f_wheel_names) a_need_wheel k_need_wheel (by decide +kernel) rfl rfl
theorem s_need_end : FnScope nneed_end [⟨#[109, 105, 108, 108]⟩, ⟨#[110, 97, 109, 101]⟩] (defScope (topS 17)) := ⟨rfl, rfl, rfl, by decide +kernel, rfl, by decide +kernel, by decide +kernel⟩
theorem v_need_end : ∀ y ∈ nneed_end, (y == ("__debug__" : Str)) = false ∧ (y == ("__classdict__" : Str)) = false := by decide +kernel
theorem a_need_end : BindOk K ⟨#[110, 101, 101, 100, 95, 101, 110, 100]⟩ (topS 17) [⟨#[109, 105, 108, 108]⟩, ⟨#[110, 97, 109, 101]⟩] := fun a fd F => F.binds fun _ _ _ _ _ _ us hl => match us, hl with | [_, _], _ => rfl
theorem k_need_end : KwsOk K ⟨#[110, 101, 101, 100, 95, 101, 110, 100]⟩ (topS 17) [⟨#[109, 105, 108, 108]⟩, ⟨#[110, 97, 109, 101]⟩] (kt ⟨#[110, 101, 101, 100, 95, 101, 110, 100]⟩) := by
  have e0 : kt ⟨#[110, 101, 101, 100, 95, 101, 110, 100]⟩ = [] := by rfl
  rw [e0]
  intro a fd F
  intro e h
  cases h
theorem ok_need_end (B : BaseK P w K mg) (D : Defs K mg) : CalOk P w K mg base kt 3 ⟨#[110, 101, 101, 100, 95, 101, 110, 100]⟩ 2 f_need_end :=
  cal_of (c := cneed_end f_end_names) (k := 2) D.d17 s_need_end v_need_end (lib_of (kt := kt) (base := base) B (List.forall_mem_cons.mpr ⟨(ok_end_names B D).mono (by omega), fun e h => by cases h⟩) (fun e h => by cases h)) (rneed_end f_end_names) a_need_end k_need_end (by decide +kernel) rfl rfl
theorem s_saying_called : FnScope nsaying_called [⟨#[109, 105, 108, 108]⟩, ⟨#[110, 97, 109, 101]⟩] (defScope (topS 18)) := ⟨rfl, rfl, rfl, by decide +kernel, rfl, by decide +kernel, by decide +kernel⟩
theorem v_saying_called : ∀ y ∈ nsaying_called, (y == ("__debug__" : Str)) = false ∧ (y == ("__classdict__" : Str)) = false := by decide +kernel
theorem a_saying_called : BindOk K ⟨#[115, 97, 121, 105, 110, 103, 95, 99, 97, 108, 108, 101, 100]⟩ (topS 18) [⟨#[109, 105, 108, 108]⟩, ⟨#[110, 97, 109, 101]⟩] := fun a fd F => F.binds fun _ _ _ _ _ _ us hl => match us, hl with | [_, _], _ => rfl
theorem k_saying_called : KwsOk K ⟨#[115, 97, 121, 105, 110, 103, 95, 99, 97, 108, 108, 101, 100]⟩ (topS 18) [⟨#[109, 105, 108, 108]⟩, ⟨#[110, 97, 109, 101]⟩] (kt ⟨#[115, 97, 121, 105, 110, 103, 95, 99, 97, 108, 108, 101, 100]⟩) := by
  have e0 : kt ⟨#[115, 97, 121, 105, 110, 103, 95, 99, 97, 108, 108, 101, 100]⟩ = [] := by rfl
  rw [e0]
  intro a fd F
  intro e h
  cases h
theorem ok_saying_called (B : BaseK P w K mg) (D : Defs K mg) : CalOk P w K mg base kt 1 ⟨#[115, 97, 121, 105, 110, 103, 95, 99, 97, 108, 108, 101, 100]⟩ 2 f_saying_called :=
  cal_of (c := csaying_called) (k := 0) D.d18 s_saying_called v_saying_called (lib_of (kt := kt) (base := base) B (fun e h => by cases h) (fun e h => by cases h)) (rsaying_called) a_saying_called k_saying_called (by decide +kernel) rfl rfl
theorem s_is_wheel : FnScope nis_wheel [⟨#[116, 104, 105, 110, 103]⟩] (defScope (topS 20)) := ⟨rfl, rfl, rfl, by decide +kernel, rfl, by decide +kernel, by decide +kernel⟩
theorem v_is_wheel : ∀ y ∈ nis_wheel, (y == ("__debug__" : Str)) = false ∧ (y == ("__classdict__" : Str)) = false := by decide +kernel
theorem a_is_wheel : BindOk K ⟨#[105, 115, 95, 119, 104, 101, 101, 108]⟩ (topS 20) [⟨#[116, 104, 105, 110, 103]⟩] := fun a fd F => F.binds fun _ _ _ _ _ _ us hl => match us, hl with | [_], _ => rfl
theorem k_is_wheel : KwsOk K ⟨#[105, 115, 95, 119, 104, 101, 101, 108]⟩ (topS 20) [⟨#[116, 104, 105, 110, 103]⟩] (kt ⟨#[105, 115, 95, 119, 104, 101, 101, 108]⟩) := by
  have e0 : kt ⟨#[105, 115, 95, 119, 104, 101, 101, 108]⟩ = [] := by rfl
  rw [e0]
  intro a fd F
  intro e h
  cases h
theorem ok_is_wheel (B : BaseK P w K mg) (D : Defs K mg) : CalOk P w K mg base kt 2 ⟨#[105, 115, 95, 119, 104, 101, 101, 108]⟩ 1 f_is_wheel :=
  cal_of (c := cis_wheel f_is_name f_is_number f_is_row) (k := 1) D.d20 s_is_wheel v_is_wheel (lib_of (kt := kt) (base := base) B (List.forall_mem_cons.mpr ⟨(ok_is_name B D).mono (by omega), List.forall_mem_cons.mpr ⟨(ok_is_number B D).mono (by omega), List.forall_mem_cons.mpr ⟨(ok_is_row B D).mono (by omega), fun e h => by cases h⟩⟩⟩) (fun e h => by cases h)) (ris_wheel f_is_name f_is_number f_is_row) a_is_wheel k_is_wheel (by decide +kernel) rfl rfl
theorem s_is_saying : FnScope nis_saying [⟨#[116, 104, 105, 110, 103]⟩, ⟨#[101, 110, 100, 115]⟩] (defScope (topS 21)) := ⟨rfl, rfl, rfl, by decide +kernel, rfl, by decide +kernel, by decide +kernel⟩
theorem v_is_saying : ∀ y ∈ nis_saying, (y == ("__debug__" : Str)) = false ∧ (y == ("__classdict__" : Str)) = false := by decide +kernel
theorem a_is_saying : BindOk K ⟨#[105, 115, 95, 115, 97, 121, 105, 110, 103]⟩ (topS 21) [⟨#[116, 104, 105, 110, 103]⟩, ⟨#[101, 110, 100, 115]⟩] := fun a fd F => F.binds fun _ _ _ _ _ _ us hl => match us, hl with | [_, _], _ => rfl
theorem k_is_saying : KwsOk K ⟨#[105, 115, 95, 115, 97, 121, 105, 110, 103]⟩ (topS 21) [⟨#[116, 104, 105, 110, 103]⟩, ⟨#[101, 110, 100, 115]⟩] (kt ⟨#[105, 115, 95, 115, 97, 121, 105, 110, 103]⟩) := by
  have e0 : kt ⟨#[105, 115, 95, 115, 97, 121, 105, 110, 103]⟩ = [] := by rfl
  rw [e0]
  intro a fd F
  intro e h
  cases h
theorem ok_is_saying (B : BaseK P w K mg) (D : Defs K mg) : CalOk P w K mg base kt 2 ⟨#[105, 115, 95, 115, 97, 121, 105, 110, 103]⟩ 2 f_is_saying :=
  cal_of (c := cis_saying f_is_name f_is_number f_is_row) (k := 1) D.d21 s_is_saying v_is_saying (lib_of (kt := kt) (base := base) B (List.forall_mem_cons.mpr ⟨(ok_is_name B D).mono (by omega), List.forall_mem_cons.mpr ⟨(ok_is_number B D).mono (by omega), List.forall_mem_cons.mpr ⟨(ok_is_row B D).mono (by omega), fun e h => by cases h⟩⟩⟩) (fun e h => by cases h)) (ris_saying f_is_name f_is_number f_is_row) a_is_saying k_is_saying (by decide +kernel) rfl rfl
theorem s_is_mill : FnScope nis_mill [⟨#[116, 104, 105, 110, 103]⟩] (defScope (topS 22)) := ⟨rfl, rfl, rfl, by decide +kernel, rfl, by decide +kernel, by decide +kernel⟩
theorem v_is_mill : ∀ y ∈ nis_mill, (y == ("__debug__" : Str)) = false ∧ (y == ("__classdict__" : Str)) = false := by decide +kernel
theorem a_is_mill : BindOk K ⟨#[105, 115, 95, 109, 105, 108, 108]⟩ (topS 22) [⟨#[116, 104, 105, 110, 103]⟩] := fun a fd F => F.binds fun _ _ _ _ _ _ us hl => match us, hl with | [_], _ => rfl
theorem k_is_mill : KwsOk K ⟨#[105, 115, 95, 109, 105, 108, 108]⟩ (topS 22) [⟨#[116, 104, 105, 110, 103]⟩] (kt ⟨#[105, 115, 95, 109, 105, 108, 108]⟩) := by
  have e0 : kt ⟨#[105, 115, 95, 109, 105, 108, 108]⟩ = [([⟨#[116, 104, 105, 110, 103]⟩], [0])] := by rfl
  rw [e0]
  intro a fd F
  obtain ⟨oc, od, kV, doc, pm, an, cdv, ct, osl, rfl, lk, hcd⟩ := F.ex
  simp only [List.forall_mem_cons]
  refine ⟨fun X hX s ws us _ hl hp => match ws, hl with | [a0], _ => by cases hp; exact ⟨rfl, .of_eq rfl⟩, fun _ h => by cases h⟩
theorem ok_is_mill (B : BaseK P w K mg) (D : Defs K mg) : CalOk P w K mg base kt 3 ⟨#[105, 115, 95, 109, 105, 108, 108]⟩ 1 f_is_mill :=
  cal_of (c := cis_mill f_ascends f_end_names f_is_row f_is_saying f_is_wheel f_saying_names f_wheel_names) (k := 2) D.d22 s_is_mill v_is_mill (lib_of (kt := kt) (base := base) B (List.forall_mem_cons.mpr ⟨(ok_ascends B D).mono (by omega), List.forall_mem_cons.mpr ⟨(ok_end_names B D).mono (by omega), List.forall_mem_cons.mpr ⟨(ok_is_row B D).mono (by omega), List.forall_mem_cons.mpr ⟨(ok_is_saying B D).mono (by omega), List.forall_mem_cons.mpr ⟨(ok_is_wheel B D).mono (by omega), List.forall_mem_cons.mpr ⟨(ok_saying_names B D).mono (by omega), List.forall_mem_cons.mpr ⟨(ok_wheel_names B D).mono (by omega), fun e h => by cases h⟩⟩⟩⟩⟩⟩⟩) (fun e h => by cases h)) (ris_mill f_ascends f_end_names f_is_row f_is_saying f_is_wheel f_saying_names f_wheel_names) a_is_mill k_is_mill (by decide +kernel) rfl rfl
theorem s_is_begins : FnScope nis_begins [⟨#[109, 105, 108, 108]⟩, ⟨#[116, 104, 105, 110, 103]⟩] (defScope (topS 23)) := ⟨rfl, rfl, rfl, by decide +kernel, rfl, by decide +kernel, by decide +kernel⟩
theorem v_is_begins : ∀ y ∈ nis_begins, (y == ("__debug__" : Str)) = false ∧ (y == ("__classdict__" : Str)) = false := by decide +kernel
theorem a_is_begins : BindOk K ⟨#[105, 115, 95, 98, 101, 103, 105, 110, 115]⟩ (topS 23) [⟨#[109, 105, 108, 108]⟩, ⟨#[116, 104, 105, 110, 103]⟩] := fun a fd F => F.binds fun _ _ _ _ _ _ us hl => match us, hl with | [_, _], _ => rfl
theorem k_is_begins : KwsOk K ⟨#[105, 115, 95, 98, 101, 103, 105, 110, 115]⟩ (topS 23) [⟨#[109, 105, 108, 108]⟩, ⟨#[116, 104, 105, 110, 103]⟩] (kt ⟨#[105, 115, 95, 98, 101, 103, 105, 110, 115]⟩) := by
  have e0 : kt ⟨#[105, 115, 95, 98, 101, 103, 105, 110, 115]⟩ = [([⟨#[109, 105, 108, 108]⟩, ⟨#[116, 104, 105, 110, 103]⟩], [0, 1])] := by rfl
  rw [e0]
  intro a fd F
  obtain ⟨oc, od, kV, doc, pm, an, cdv, ct, osl, rfl, lk, hcd⟩ := F.ex
  simp only [List.forall_mem_cons]
  refine ⟨fun X hX s ws us _ hl hp => match ws, hl with | [a0, a1], _ => by cases hp; exact ⟨rfl, .of_eq rfl⟩, fun _ h => by cases h⟩
theorem ok_is_begins (B : BaseK P w K mg) (D : Defs K mg) : CalOk P w K mg base kt 2 ⟨#[105, 115, 95, 98, 101, 103, 105, 110, 115]⟩ 2 f_is_begins :=
  cal_of (c := cis_begins f_is_number f_is_row f_wheel_names) (k := 1) D.d23 s_is_begins v_is_begins (lib_of (kt := kt) (base := base) B (List.forall_mem_cons.mpr ⟨(ok_is_number B D).mono (by omega), List.forall_mem_cons.mpr ⟨(ok_is_row B D).mono (by omega), List.forall_mem_cons.mpr ⟨(ok_wheel_names B D).mono (by omega), fun e h => by cases h⟩⟩⟩) (fun e h => by cases h)) (ris_begins f_is_number f_is_row f_wheel_names) a_is_begins k_is_begins (by decide +kernel) rfl rfl
theorem s_begin_table : FnScope nbegin_table [⟨#[98, 101, 103, 105, 110, 115]⟩] (defScope (topS 25)) := ⟨rfl, rfl, rfl, by decide +kernel, rfl, by decide +kernel, by decide +kernel⟩
theorem v_begin_table : ∀ y ∈ nbegin_table, (y == ("__debug__" : Str)) = false ∧ (y == ("__classdict__" : Str)) = false := by decide +kernel
theorem a_begin_table : BindOk K ⟨#[98, 101, 103, 105, 110, 95, 116, 97, 98, 108, 101]⟩ (topS 25) [⟨#[98, 101, 103, 105, 110, 115]⟩] := fun a fd F => F.binds fun _ _ _ _ _ _ us hl => match us, hl with | [_], _ => rfl
theorem k_begin_table : KwsOk K ⟨#[98, 101, 103, 105, 110, 95, 116, 97, 98, 108, 101]⟩ (topS 25) [⟨#[98, 101, 103, 105, 110, 115]⟩] (kt ⟨#[98, 101, 103, 105, 110, 95, 116, 97, 98, 108, 101]⟩) := by
  have e0 : kt ⟨#[98, 101, 103, 105, 110, 95, 116, 97, 98, 108, 101]⟩ = [] := by rfl
  rw [e0]
  intro a fd F
  intro e h
  cases h
theorem ok_begin_table (B : BaseK P w K mg) (D : Defs K mg) : CalOk P w K mg base kt 1 ⟨#[98, 101, 103, 105, 110, 95, 116, 97, 98, 108, 101]⟩ 1 f_begin_table :=
  cal_of (c := cbegin_table) (k := 0) D.d25 s_begin_table v_begin_table (lib_of (kt := kt) (base := base) B (fun e h => by cases h) (fun e h => by cases h)) (rbegin_table) a_begin_table k_begin_table (by decide +kernel) rfl rfl
theorem s_how_far_off : FnScope nhow_far_off [⟨#[115, 97, 121, 105, 110, 103]⟩, ⟨#[116, 97, 98, 108, 101]⟩] (defScope (topS 26)) := ⟨rfl, rfl, rfl, by decide +kernel, rfl, by decide +kernel, by decide +kernel⟩
theorem v_how_far_off : ∀ y ∈ nhow_far_off, (y == ("__debug__" : Str)) = false ∧ (y == ("__classdict__" : Str)) = false := by decide +kernel
theorem a_how_far_off : BindOk K ⟨#[104, 111, 119, 95, 102, 97, 114, 95, 111, 102, 102]⟩ (topS 26) [⟨#[115, 97, 121, 105, 110, 103]⟩, ⟨#[116, 97, 98, 108, 101]⟩] := fun a fd F => F.binds fun _ _ _ _ _ _ us hl => match us, hl with | [_, _], _ => rfl
theorem k_how_far_off : KwsOk K ⟨#[104, 111, 119, 95, 102, 97, 114, 95, 111, 102, 102]⟩ (topS 26) [⟨#[115, 97, 121, 105, 110, 103]⟩, ⟨#[116, 97, 98, 108, 101]⟩] (kt ⟨#[104, 111, 119, 95, 102, 97, 114, 95, 111, 102, 102]⟩) := by
  have e0 : kt ⟨#[104, 111, 119, 95, 102, 97, 114, 95, 111, 102, 102]⟩ = [] := by rfl
  rw [e0]
  intro a fd F
  intro e h
  cases h
theorem ok_how_far_off (B : BaseK P w K mg) (D : Defs K mg) : CalOk P w K mg base kt 1 ⟨#[104, 111, 119, 95, 102, 97, 114, 95, 111, 102, 102]⟩ 2 f_how_far_off :=
  cal_of (c := chow_far_off) (k := 0) D.d26 s_how_far_off v_how_far_off (lib_of (kt := kt) (base := base) B (fun e h => by cases h) (fun e h => by cases h)) (rhow_far_off) a_how_far_off k_how_far_off (by decide +kernel) rfl rfl
theorem s_unkept : FnScope nunkept [⟨#[109, 105, 108, 108]⟩, ⟨#[98, 101, 103, 105, 110, 115]⟩] (defScope (topS 28)) := ⟨rfl, rfl, rfl, by decide +kernel, rfl, by decide +kernel, by decide +kernel⟩
theorem v_unkept : ∀ y ∈ nunkept, (y == ("__debug__" : Str)) = false ∧ (y == ("__classdict__" : Str)) = false := by decide +kernel
theorem a_unkept : BindOk K ⟨#[117, 110, 107, 101, 112, 116]⟩ (topS 28) [⟨#[109, 105, 108, 108]⟩, ⟨#[98, 101, 103, 105, 110, 115]⟩] := fun a fd F => F.binds fun _ _ _ _ _ _ us hl => match us, hl with | [_, _], _ => rfl
theorem k_unkept : KwsOk K ⟨#[117, 110, 107, 101, 112, 116]⟩ (topS 28) [⟨#[109, 105, 108, 108]⟩, ⟨#[98, 101, 103, 105, 110, 115]⟩] (kt ⟨#[117, 110, 107, 101, 112, 116]⟩) := by
  have e0 : kt ⟨#[117, 110, 107, 101, 112, 116]⟩ = [([⟨#[98, 101, 103, 105, 110, 115]⟩, ⟨#[109, 105, 108, 108]⟩], [1, 0])] := by rfl
  rw [e0]
  intro a fd F
  obtain ⟨oc, od, kV, doc, pm, an, cdv, ct, osl, rfl, lk, hcd⟩ := F.ex
  simp only [List.forall_mem_cons]
  refine ⟨fun X hX s ws us _ hl hp => match ws, hl with | [a0, a1], _ => by cases hp; exact ⟨rfl, .of_eq rfl⟩, fun _ h => by cases h⟩
theorem ok_unkept (B : BaseK P w K mg) (D : Defs K mg) : CalOk P w K mg base kt 2 ⟨#[117, 110, 107, 101, 112, 116]⟩ 2 f_unkept :=
  cal_of (c := cunkept f_begin_table f_how_far_off) (k := 1) D.d28 s_unkept v_unkept (lib_of (kt := kt) (base := base) B (List.forall_mem_cons.mpr ⟨(ok_begin_table B D).mono (by omega), List.forall_mem_cons.mpr ⟨(ok_how_far_off B D).mono (by omega), fun e h => by cases h⟩⟩) (fun e h => by cases h)) (runkept f_begin_table f_how_far_off) a_unkept k_unkept (by decide +kernel) rfl rfl
theorem s_is_setting : FnScope nis_setting [⟨#[109, 105, 108, 108]⟩, ⟨#[116, 104, 105, 110, 103]⟩] (defScope (topS 24)) := ⟨rfl, rfl, rfl, by decide +kernel, rfl, by decide +kernel, by decide +kernel⟩
theorem v_is_setting : ∀ y ∈ nis_setting, (y == ("__debug__" : Str)) = false ∧ (y == ("__classdict__" : Str)) = false := by decide +kernel
theorem a_is_setting : BindOk K ⟨#[105, 115, 95, 115, 101, 116, 116, 105, 110, 103]⟩ (topS 24) [⟨#[109, 105, 108, 108]⟩, ⟨#[116, 104, 105, 110, 103]⟩] := fun a fd F => F.binds fun _ _ _ _ _ _ us hl => match us, hl with | [_, _], _ => rfl
theorem k_is_setting : KwsOk K ⟨#[105, 115, 95, 115, 101, 116, 116, 105, 110, 103]⟩ (topS 24) [⟨#[109, 105, 108, 108]⟩, ⟨#[116, 104, 105, 110, 103]⟩] (kt ⟨#[105, 115, 95, 115, 101, 116, 116, 105, 110, 103]⟩) := by
  have e0 : kt ⟨#[105, 115, 95, 115, 101, 116, 116, 105, 110, 103]⟩ = [([⟨#[109, 105, 108, 108]⟩, ⟨#[116, 104, 105, 110, 103]⟩], [0, 1])] := by rfl
  rw [e0]
  intro a fd F
  obtain ⟨oc, od, kV, doc, pm, an, cdv, ct, osl, rfl, lk, hcd⟩ := F.ex
  simp only [List.forall_mem_cons]
  refine ⟨fun X hX s ws us _ hl hp => match ws, hl with | [a0, a1], _ => by cases hp; exact ⟨rfl, .of_eq rfl⟩, fun _ h => by cases h⟩
theorem ok_is_setting (B : BaseK P w K mg) (D : Defs K mg) : CalOk P w K mg base kt 3 ⟨#[105, 115, 95, 115, 101, 116, 116, 105, 110, 103]⟩ 2 f_is_setting :=
  cal_of (c := cis_setting f_is_begins f_unkept) (k := 2) D.d24 s_is_setting v_is_setting (lib_of (kt := kt) (base := base) B (List.forall_mem_cons.mpr ⟨(ok_is_begins B D).mono (by omega), List.forall_mem_cons.mpr ⟨(ok_unkept B D).mono (by omega), fun e h => by cases h⟩⟩) (fun e h => by cases h)) (ris_setting f_is_begins f_unkept) a_is_setting k_is_setting (by decide +kernel) rfl rfl
theorem s_off_by : FnScope noff_by [⟨#[109, 105, 108, 108]⟩, ⟨#[98, 101, 103, 105, 110, 115]⟩, ⟨#[110, 97, 109, 101]⟩] (defScope (topS 27)) := ⟨rfl, rfl, rfl, by decide +kernel, rfl, by decide +kernel, by decide +kernel⟩
theorem v_off_by : ∀ y ∈ noff_by, (y == ("__debug__" : Str)) = false ∧ (y == ("__classdict__" : Str)) = false := by decide +kernel
theorem a_off_by : BindOk K ⟨#[111, 102, 102, 95, 98, 121]⟩ (topS 27) [⟨#[109, 105, 108, 108]⟩, ⟨#[98, 101, 103, 105, 110, 115]⟩, ⟨#[110, 97, 109, 101]⟩] := fun a fd F => F.binds fun _ _ _ _ _ _ us hl => match us, hl with | [_, _, _], _ => rfl
theorem k_off_by : KwsOk K ⟨#[111, 102, 102, 95, 98, 121]⟩ (topS 27) [⟨#[109, 105, 108, 108]⟩, ⟨#[98, 101, 103, 105, 110, 115]⟩, ⟨#[110, 97, 109, 101]⟩] (kt ⟨#[111, 102, 102, 95, 98, 121]⟩) := by
  have e0 : kt ⟨#[111, 102, 102, 95, 98, 121]⟩ = [([⟨#[110, 97, 109, 101]⟩, ⟨#[98, 101, 103, 105, 110, 115]⟩, ⟨#[109, 105, 108, 108]⟩], [2, 1, 0])] := by rfl
  rw [e0]
  intro a fd F
  obtain ⟨oc, od, kV, doc, pm, an, cdv, ct, osl, rfl, lk, hcd⟩ := F.ex
  simp only [List.forall_mem_cons]
  refine ⟨fun X hX s ws us _ hl hp => match ws, hl with | [a0, a1, a2], _ => by cases hp; exact ⟨rfl, .of_eq rfl⟩, fun _ h => by cases h⟩
theorem ok_off_by (B : BaseK P w K mg) (D : Defs K mg) : CalOk P w K mg base kt 2 ⟨#[111, 102, 102, 95, 98, 121]⟩ 3 f_off_by :=
  cal_of (c := coff_by f_begin_table f_how_far_off f_saying_called) (k := 1) D.d27 s_off_by v_off_by (lib_of (kt := kt) (base := base) B (List.forall_mem_cons.mpr ⟨(ok_begin_table B D).mono (by omega), List.forall_mem_cons.mpr ⟨(ok_how_far_off B D).mono (by omega), List.forall_mem_cons.mpr ⟨(ok_saying_called B D).mono (by omega), fun e h => by cases h⟩⟩⟩) (fun e h => by cases h)) (roff_by f_begin_table f_how_far_off f_saying_called) a_off_by k_off_by (by decide +kernel) rfl rfl
theorem s_with_wheel : FnScope nwith_wheel [⟨#[109, 105, 108, 108]⟩, ⟨#[119, 104, 101, 101, 108]⟩] (defScope (topS 29)) := ⟨rfl, rfl, rfl, by decide +kernel, rfl, by decide +kernel, by decide +kernel⟩
theorem v_with_wheel : ∀ y ∈ nwith_wheel, (y == ("__debug__" : Str)) = false ∧ (y == ("__classdict__" : Str)) = false := by decide +kernel
theorem a_with_wheel : BindOk K ⟨#[119, 105, 116, 104, 95, 119, 104, 101, 101, 108]⟩ (topS 29) [⟨#[109, 105, 108, 108]⟩, ⟨#[119, 104, 101, 101, 108]⟩] := fun a fd F => F.binds fun _ _ _ _ _ _ us hl => match us, hl with | [_, _], _ => rfl
theorem k_with_wheel : KwsOk K ⟨#[119, 105, 116, 104, 95, 119, 104, 101, 101, 108]⟩ (topS 29) [⟨#[109, 105, 108, 108]⟩, ⟨#[119, 104, 101, 101, 108]⟩] (kt ⟨#[119, 105, 116, 104, 95, 119, 104, 101, 101, 108]⟩) := by
  have e0 : kt ⟨#[119, 105, 116, 104, 95, 119, 104, 101, 101, 108]⟩ = [([⟨#[119, 104, 101, 101, 108]⟩, ⟨#[109, 105, 108, 108]⟩], [1, 0])] := by rfl
  rw [e0]
  intro a fd F
  obtain ⟨oc, od, kV, doc, pm, an, cdv, ct, osl, rfl, lk, hcd⟩ := F.ex
  simp only [List.forall_mem_cons]
  refine ⟨fun X hX s ws us _ hl hp => match ws, hl with | [a0, a1], _ => by cases hp; exact ⟨rfl, .of_eq rfl⟩, fun _ h => by cases h⟩
theorem ok_with_wheel (B : BaseK P w K mg) (D : Defs K mg) : CalOk P w K mg base kt 16 ⟨#[119, 105, 116, 104, 95, 119, 104, 101, 101, 108]⟩ 2 f_with_wheel :=
  cal_of (c := cwith_wheel (f_tupled 14) f_wheel_names) (k := 15) D.d29 s_with_wheel v_with_wheel (lib_of (kt := kt) (base := base) B (List.forall_mem_cons.mpr ⟨(ok_tupled B D 14).mono (by omega), List.forall_mem_cons.mpr ⟨(ok_wheel_names B D).mono (by omega), fun e h => by cases h⟩⟩) (fun e h => by cases h)) (rwith_wheel (f_tupled 14) f_wheel_names) a_with_wheel k_with_wheel (by decide +kernel) rfl rfl
theorem s_without_wheel : FnScope nwithout_wheel [⟨#[109, 105, 108, 108]⟩, ⟨#[110, 97, 109, 101]⟩] (defScope (topS 30)) := ⟨rfl, rfl, rfl, by decide +kernel, rfl, by decide +kernel, by decide +kernel⟩
theorem v_without_wheel : ∀ y ∈ nwithout_wheel, (y == ("__debug__" : Str)) = false ∧ (y == ("__classdict__" : Str)) = false := by decide +kernel
theorem a_without_wheel : BindOk K ⟨#[119, 105, 116, 104, 111, 117, 116, 95, 119, 104, 101, 101, 108]⟩ (topS 30) [⟨#[109, 105, 108, 108]⟩, ⟨#[110, 97, 109, 101]⟩] := fun a fd F => F.binds fun _ _ _ _ _ _ us hl => match us, hl with | [_, _], _ => rfl
theorem k_without_wheel : KwsOk K ⟨#[119, 105, 116, 104, 111, 117, 116, 95, 119, 104, 101, 101, 108]⟩ (topS 30) [⟨#[109, 105, 108, 108]⟩, ⟨#[110, 97, 109, 101]⟩] (kt ⟨#[119, 105, 116, 104, 111, 117, 116, 95, 119, 104, 101, 101, 108]⟩) := by
  have e0 : kt ⟨#[119, 105, 116, 104, 111, 117, 116, 95, 119, 104, 101, 101, 108]⟩ = [([⟨#[110, 97, 109, 101]⟩, ⟨#[109, 105, 108, 108]⟩], [1, 0])] := by rfl
  rw [e0]
  intro a fd F
  obtain ⟨oc, od, kV, doc, pm, an, cdv, ct, osl, rfl, lk, hcd⟩ := F.ex
  simp only [List.forall_mem_cons]
  refine ⟨fun X hX s ws us _ hl hp => match ws, hl with | [a0, a1], _ => by cases hp; exact ⟨rfl, .of_eq rfl⟩, fun _ h => by cases h⟩
theorem ok_without_wheel (B : BaseK P w K mg) (D : Defs K mg) : CalOk P w K mg base kt 16 ⟨#[119, 105, 116, 104, 111, 117, 116, 95, 119, 104, 101, 101, 108]⟩ 2 f_without_wheel :=
  cal_of (c := cwithout_wheel f_need_wheel (f_tupled 14)) (k := 15) D.d30 s_without_wheel v_without_wheel (lib_of (kt := kt) (base := base) B (List.forall_mem_cons.mpr ⟨(ok_need_wheel B D).mono (by omega), List.forall_mem_cons.mpr ⟨(ok_tupled B D 14).mono (by omega), fun e h => by cases h⟩⟩) (fun e h => by cases h)) (rwithout_wheel f_need_wheel (f_tupled 14)) a_without_wheel k_without_wheel (by decide +kernel) rfl rfl
theorem s_with_saying : FnScope nwith_saying [⟨#[109, 105, 108, 108]⟩, ⟨#[115, 97, 121, 105, 110, 103]⟩] (defScope (topS 31)) := ⟨rfl, rfl, rfl, by decide +kernel, rfl, by decide +kernel, by decide +kernel⟩
theorem v_with_saying : ∀ y ∈ nwith_saying, (y == ("__debug__" : Str)) = false ∧ (y == ("__classdict__" : Str)) = false := by decide +kernel
theorem a_with_saying : BindOk K ⟨#[119, 105, 116, 104, 95, 115, 97, 121, 105, 110, 103]⟩ (topS 31) [⟨#[109, 105, 108, 108]⟩, ⟨#[115, 97, 121, 105, 110, 103]⟩] := fun a fd F => F.binds fun _ _ _ _ _ _ us hl => match us, hl with | [_, _], _ => rfl
theorem k_with_saying : KwsOk K ⟨#[119, 105, 116, 104, 95, 115, 97, 121, 105, 110, 103]⟩ (topS 31) [⟨#[109, 105, 108, 108]⟩, ⟨#[115, 97, 121, 105, 110, 103]⟩] (kt ⟨#[119, 105, 116, 104, 95, 115, 97, 121, 105, 110, 103]⟩) := by
  have e0 : kt ⟨#[119, 105, 116, 104, 95, 115, 97, 121, 105, 110, 103]⟩ = [([⟨#[115, 97, 121, 105, 110, 103]⟩, ⟨#[109, 105, 108, 108]⟩], [1, 0])] := by rfl
  rw [e0]
  intro a fd F
  obtain ⟨oc, od, kV, doc, pm, an, cdv, ct, osl, rfl, lk, hcd⟩ := F.ex
  simp only [List.forall_mem_cons]
  refine ⟨fun X hX s ws us _ hl hp => match ws, hl with | [a0, a1], _ => by cases hp; exact ⟨rfl, .of_eq rfl⟩, fun _ h => by cases h⟩
theorem ok_with_saying (B : BaseK P w K mg) (D : Defs K mg) : CalOk P w K mg base kt 16 ⟨#[119, 105, 116, 104, 95, 115, 97, 121, 105, 110, 103]⟩ 2 f_with_saying :=
  cal_of (c := cwith_saying f_need_end f_saying_names (f_tupled 14)) (k := 15) D.d31 s_with_saying v_with_saying (lib_of (kt := kt) (base := base) B (List.forall_mem_cons.mpr ⟨(ok_need_end B D).mono (by omega), List.forall_mem_cons.mpr ⟨(ok_saying_names B D).mono (by omega), List.forall_mem_cons.mpr ⟨(ok_tupled B D 14).mono (by omega), fun e h => by cases h⟩⟩⟩) (fun e h => by cases h)) (rwith_saying f_need_end f_saying_names (f_tupled 14)) a_with_saying k_with_saying (by decide +kernel) rfl rfl
theorem s_without_saying : FnScope nwithout_saying [⟨#[109, 105, 108, 108]⟩, ⟨#[110, 97, 109, 101]⟩] (defScope (topS 32)) := ⟨rfl, rfl, rfl, by decide +kernel, rfl, by decide +kernel, by decide +kernel⟩
theorem v_without_saying : ∀ y ∈ nwithout_saying, (y == ("__debug__" : Str)) = false ∧ (y == ("__classdict__" : Str)) = false := by decide +kernel
theorem a_without_saying : BindOk K ⟨#[119, 105, 116, 104, 111, 117, 116, 95, 115, 97, 121, 105, 110, 103]⟩ (topS 32) [⟨#[109, 105, 108, 108]⟩, ⟨#[110, 97, 109, 101]⟩] := fun a fd F => F.binds fun _ _ _ _ _ _ us hl => match us, hl with | [_, _], _ => rfl
theorem k_without_saying : KwsOk K ⟨#[119, 105, 116, 104, 111, 117, 116, 95, 115, 97, 121, 105, 110, 103]⟩ (topS 32) [⟨#[109, 105, 108, 108]⟩, ⟨#[110, 97, 109, 101]⟩] (kt ⟨#[119, 105, 116, 104, 111, 117, 116, 95, 115, 97, 121, 105, 110, 103]⟩) := by
  have e0 : kt ⟨#[119, 105, 116, 104, 111, 117, 116, 95, 115, 97, 121, 105, 110, 103]⟩ = [([⟨#[110, 97, 109, 101]⟩, ⟨#[109, 105, 108, 108]⟩], [1, 0])] := by rfl
  rw [e0]
  intro a fd F
  obtain ⟨oc, od, kV, doc, pm, an, cdv, ct, osl, rfl, lk, hcd⟩ := F.ex
  simp only [List.forall_mem_cons]
  refine ⟨fun X hX s ws us _ hl hp => match ws, hl with | [a0, a1], _ => by cases hp; exact ⟨rfl, .of_eq rfl⟩, fun _ h => by cases h⟩
theorem ok_without_saying (B : BaseK P w K mg) (D : Defs K mg) : CalOk P w K mg base kt 16 ⟨#[119, 105, 116, 104, 111, 117, 116, 95, 115, 97, 121, 105, 110, 103]⟩ 2 f_without_saying :=
  cal_of (c := cwithout_saying f_saying_called (f_tupled 14)) (k := 15) D.d32 s_without_saying v_without_saying (lib_of (kt := kt) (base := base) B (List.forall_mem_cons.mpr ⟨(ok_saying_called B D).mono (by omega), List.forall_mem_cons.mpr ⟨(ok_tupled B D 14).mono (by omega), fun e h => by cases h⟩⟩) (fun e h => by cases h)) (rwithout_saying f_saying_called (f_tupled 14)) a_without_saying k_without_saying (by decide +kernel) rfl rfl
theorem s_turned_saying : FnScope nturned_saying [⟨#[109, 105, 108, 108]⟩, ⟨#[110, 97, 109, 101]⟩] (defScope (topS 33)) := ⟨rfl, rfl, rfl, by decide +kernel, rfl, by decide +kernel, by decide +kernel⟩
theorem v_turned_saying : ∀ y ∈ nturned_saying, (y == ("__debug__" : Str)) = false ∧ (y == ("__classdict__" : Str)) = false := by decide +kernel
theorem a_turned_saying : BindOk K ⟨#[116, 117, 114, 110, 101, 100, 95, 115, 97, 121, 105, 110, 103]⟩ (topS 33) [⟨#[109, 105, 108, 108]⟩, ⟨#[110, 97, 109, 101]⟩] := fun a fd F => F.binds fun _ _ _ _ _ _ us hl => match us, hl with | [_, _], _ => rfl
theorem k_turned_saying : KwsOk K ⟨#[116, 117, 114, 110, 101, 100, 95, 115, 97, 121, 105, 110, 103]⟩ (topS 33) [⟨#[109, 105, 108, 108]⟩, ⟨#[110, 97, 109, 101]⟩] (kt ⟨#[116, 117, 114, 110, 101, 100, 95, 115, 97, 121, 105, 110, 103]⟩) := by
  have e0 : kt ⟨#[116, 117, 114, 110, 101, 100, 95, 115, 97, 121, 105, 110, 103]⟩ = [([⟨#[110, 97, 109, 101]⟩, ⟨#[109, 105, 108, 108]⟩], [1, 0])] := by rfl
  rw [e0]
  intro a fd F
  obtain ⟨oc, od, kV, doc, pm, an, cdv, ct, osl, rfl, lk, hcd⟩ := F.ex
  simp only [List.forall_mem_cons]
  refine ⟨fun X hX s ws us _ hl hp => match ws, hl with | [a0, a1], _ => by cases hp; exact ⟨rfl, .of_eq rfl⟩, fun _ h => by cases h⟩
theorem ok_turned_saying (B : BaseK P w K mg) (D : Defs K mg) : CalOk P w K mg base kt 16 ⟨#[116, 117, 114, 110, 101, 100, 95, 115, 97, 121, 105, 110, 103]⟩ 2 f_turned_saying :=
  cal_of (c := cturned_saying f_saying_called (f_tupled 14)) (k := 15) D.d33 s_turned_saying v_turned_saying (lib_of (kt := kt) (base := base) B (List.forall_mem_cons.mpr ⟨(ok_saying_called B D).mono (by omega), List.forall_mem_cons.mpr ⟨(ok_tupled B D 14).mono (by omega), fun e h => by cases h⟩⟩) (fun e h => by cases h)) (rturned_saying f_saying_called (f_tupled 14)) a_turned_saying k_turned_saying (by decide +kernel) rfl rfl
theorem s_tidy_saying : FnScope ntidy_saying [⟨#[115, 97, 121, 105, 110, 103]⟩] (defScope (topS 34)) := ⟨rfl, rfl, rfl, by decide +kernel, rfl, by decide +kernel, by decide +kernel⟩
theorem v_tidy_saying : ∀ y ∈ ntidy_saying, (y == ("__debug__" : Str)) = false ∧ (y == ("__classdict__" : Str)) = false := by decide +kernel
theorem a_tidy_saying : BindOk K ⟨#[116, 105, 100, 121, 95, 115, 97, 121, 105, 110, 103]⟩ (topS 34) [⟨#[115, 97, 121, 105, 110, 103]⟩] := fun a fd F => F.binds fun _ _ _ _ _ _ us hl => match us, hl with | [_], _ => rfl
theorem k_tidy_saying : KwsOk K ⟨#[116, 105, 100, 121, 95, 115, 97, 121, 105, 110, 103]⟩ (topS 34) [⟨#[115, 97, 121, 105, 110, 103]⟩] (kt ⟨#[116, 105, 100, 121, 95, 115, 97, 121, 105, 110, 103]⟩) := by
  have e0 : kt ⟨#[116, 105, 100, 121, 95, 115, 97, 121, 105, 110, 103]⟩ = [] := by rfl
  rw [e0]
  intro a fd F
  intro e h
  cases h
theorem ok_tidy_saying (B : BaseK P w K mg) (D : Defs K mg) : CalOk P w K mg base kt 1 ⟨#[116, 105, 100, 121, 95, 115, 97, 121, 105, 110, 103]⟩ 1 f_tidy_saying :=
  cal_of (c := ctidy_saying) (k := 0) D.d34 s_tidy_saying v_tidy_saying (lib_of (kt := kt) (base := base) B (fun e h => by cases h) (fun e h => by cases h)) (rtidy_saying) a_tidy_saying k_tidy_saying (by decide +kernel) rfl rfl
theorem s_tidied : FnScope ntidied [⟨#[109, 105, 108, 108]⟩] (defScope (topS 35)) := ⟨rfl, rfl, rfl, by decide +kernel, rfl, by decide +kernel, by decide +kernel⟩
theorem v_tidied : ∀ y ∈ ntidied, (y == ("__debug__" : Str)) = false ∧ (y == ("__classdict__" : Str)) = false := by decide +kernel
theorem a_tidied : BindOk K ⟨#[116, 105, 100, 105, 101, 100]⟩ (topS 35) [⟨#[109, 105, 108, 108]⟩] := fun a fd F => F.binds fun _ _ _ _ _ _ us hl => match us, hl with | [_], _ => rfl
theorem k_tidied : KwsOk K ⟨#[116, 105, 100, 105, 101, 100]⟩ (topS 35) [⟨#[109, 105, 108, 108]⟩] (kt ⟨#[116, 105, 100, 105, 101, 100]⟩) := by
  have e0 : kt ⟨#[116, 105, 100, 105, 101, 100]⟩ = [([⟨#[109, 105, 108, 108]⟩], [0])] := by rfl
  rw [e0]
  intro a fd F
  obtain ⟨oc, od, kV, doc, pm, an, cdv, ct, osl, rfl, lk, hcd⟩ := F.ex
  simp only [List.forall_mem_cons]
  refine ⟨fun X hX s ws us _ hl hp => match ws, hl with | [a0], _ => by cases hp; exact ⟨rfl, .of_eq rfl⟩, fun _ h => by cases h⟩
theorem ok_tidied (B : BaseK P w K mg) (D : Defs K mg) : CalOk P w K mg base kt 16 ⟨#[116, 105, 100, 105, 101, 100]⟩ 1 f_tidied :=
  cal_of (c := ctidied f_tidy_saying (f_tupled 14)) (k := 15) D.d35 s_tidied v_tidied (lib_of (kt := kt) (base := base) B (List.forall_mem_cons.mpr ⟨(ok_tidy_saying B D).mono (by omega), List.forall_mem_cons.mpr ⟨(ok_tupled B D 14).mono (by omega), fun e h => by cases h⟩⟩) (fun e h => by cases h)) (rtidied f_tidy_saying (f_tupled 14)) a_tidied k_tidied (by decide +kernel) rfl rfl
theorem s_shifted_saying : FnScope nshifted_saying [⟨#[115, 97, 121, 105, 110, 103]⟩, ⟨#[119, 104, 101, 101, 108]⟩, ⟨#[116, 105, 99, 107, 115]⟩] (defScope (topS 36)) := ⟨rfl, rfl, rfl, by decide +kernel, rfl, by decide +kernel, by decide +kernel⟩
theorem v_shifted_saying : ∀ y ∈ nshifted_saying, (y == ("__debug__" : Str)) = false ∧ (y == ("__classdict__" : Str)) = false := by decide +kernel
theorem a_shifted_saying : BindOk K ⟨#[115, 104, 105, 102, 116, 101, 100, 95, 115, 97, 121, 105, 110, 103]⟩ (topS 36) [⟨#[115, 97, 121, 105, 110, 103]⟩, ⟨#[119, 104, 101, 101, 108]⟩, ⟨#[116, 105, 99, 107, 115]⟩] := fun a fd F => F.binds fun _ _ _ _ _ _ us hl => match us, hl with | [_, _, _], _ => rfl
theorem k_shifted_saying : KwsOk K ⟨#[115, 104, 105, 102, 116, 101, 100, 95, 115, 97, 121, 105, 110, 103]⟩ (topS 36) [⟨#[115, 97, 121, 105, 110, 103]⟩, ⟨#[119, 104, 101, 101, 108]⟩, ⟨#[116, 105, 99, 107, 115]⟩] (kt ⟨#[115, 104, 105, 102, 116, 101, 100, 95, 115, 97, 121, 105, 110, 103]⟩) := by
  have e0 : kt ⟨#[115, 104, 105, 102, 116, 101, 100, 95, 115, 97, 121, 105, 110, 103]⟩ = [] := by rfl
  rw [e0]
  intro a fd F
  intro e h
  cases h
theorem ok_shifted_saying (B : BaseK P w K mg) (D : Defs K mg) : CalOk P w K mg base kt 1 ⟨#[115, 104, 105, 102, 116, 101, 100, 95, 115, 97, 121, 105, 110, 103]⟩ 3 f_shifted_saying :=
  cal_of (c := cshifted_saying) (k := 0) D.d36 s_shifted_saying v_shifted_saying (lib_of (kt := kt) (base := base) B (fun e h => by cases h) (fun e h => by cases h)) (rshifted_saying) a_shifted_saying k_shifted_saying (by decide +kernel) rfl rfl
theorem s_shifted : FnScope nshifted [⟨#[109, 105, 108, 108]⟩, ⟨#[110, 97, 109, 101]⟩, ⟨#[116, 105, 99, 107, 115]⟩] (defScope (topS 37)) := ⟨rfl, rfl, rfl, by decide +kernel, rfl, by decide +kernel, by decide +kernel⟩
theorem v_shifted : ∀ y ∈ nshifted, (y == ("__debug__" : Str)) = false ∧ (y == ("__classdict__" : Str)) = false := by decide +kernel
theorem a_shifted : BindOk K ⟨#[115, 104, 105, 102, 116, 101, 100]⟩ (topS 37) [⟨#[109, 105, 108, 108]⟩, ⟨#[110, 97, 109, 101]⟩, ⟨#[116, 105, 99, 107, 115]⟩] := fun a fd F => F.binds fun _ _ _ _ _ _ us hl => match us, hl with | [_, _, _], _ => rfl
theorem k_shifted : KwsOk K ⟨#[115, 104, 105, 102, 116, 101, 100]⟩ (topS 37) [⟨#[109, 105, 108, 108]⟩, ⟨#[110, 97, 109, 101]⟩, ⟨#[116, 105, 99, 107, 115]⟩] (kt ⟨#[115, 104, 105, 102, 116, 101, 100]⟩) := by
  have e0 : kt ⟨#[115, 104, 105, 102, 116, 101, 100]⟩ = [([⟨#[116, 105, 99, 107, 115]⟩, ⟨#[110, 97, 109, 101]⟩, ⟨#[109, 105, 108, 108]⟩], [2, 1, 0])] := by rfl
  rw [e0]
  intro a fd F
  obtain ⟨oc, od, kV, doc, pm, an, cdv, ct, osl, rfl, lk, hcd⟩ := F.ex
  simp only [List.forall_mem_cons]
  refine ⟨fun X hX s ws us _ hl hp => match ws, hl with | [a0, a1, a2], _ => by cases hp; exact ⟨rfl, .of_eq rfl⟩, fun _ h => by cases h⟩
theorem ok_shifted (B : BaseK P w K mg) (D : Defs K mg) : CalOk P w K mg base kt 16 ⟨#[115, 104, 105, 102, 116, 101, 100]⟩ 3 f_shifted :=
  cal_of (c := cshifted f_need_wheel f_shifted_saying (f_tupled 14)) (k := 15) D.d37 s_shifted v_shifted (lib_of (kt := kt) (base := base) B (List.forall_mem_cons.mpr ⟨(ok_need_wheel B D).mono (by omega), List.forall_mem_cons.mpr ⟨(ok_shifted_saying B D).mono (by omega), List.forall_mem_cons.mpr ⟨(ok_tupled B D 14).mono (by omega), fun e h => by cases h⟩⟩⟩) (fun e h => by cases h)) (rshifted f_need_wheel f_shifted_saying (f_tupled 14)) a_shifted k_shifted (by decide +kernel) rfl rfl
theorem s_renamed : FnScope nrenamed [⟨#[109, 105, 108, 108]⟩, ⟨#[112, 97, 105, 114, 115]⟩] (defScope (topS 38)) := ⟨rfl, rfl, rfl, by decide +kernel, rfl, by decide +kernel, by decide +kernel⟩
theorem v_renamed : ∀ y ∈ nrenamed, (y == ("__debug__" : Str)) = false ∧ (y == ("__classdict__" : Str)) = false := by decide +kernel
theorem a_renamed : BindOk K ⟨#[114, 101, 110, 97, 109, 101, 100]⟩ (topS 38) [⟨#[109, 105, 108, 108]⟩, ⟨#[112, 97, 105, 114, 115]⟩] := fun a fd F => F.binds fun _ _ _ _ _ _ us hl => match us, hl with | [_, _], _ => rfl
theorem k_renamed : KwsOk K ⟨#[114, 101, 110, 97, 109, 101, 100]⟩ (topS 38) [⟨#[109, 105, 108, 108]⟩, ⟨#[112, 97, 105, 114, 115]⟩] (kt ⟨#[114, 101, 110, 97, 109, 101, 100]⟩) := by
  have e0 : kt ⟨#[114, 101, 110, 97, 109, 101, 100]⟩ = [([⟨#[112, 97, 105, 114, 115]⟩, ⟨#[109, 105, 108, 108]⟩], [1, 0])] := by rfl
  rw [e0]
  intro a fd F
  obtain ⟨oc, od, kV, doc, pm, an, cdv, ct, osl, rfl, lk, hcd⟩ := F.ex
  simp only [List.forall_mem_cons]
  refine ⟨fun X hX s ws us _ hl hp => match ws, hl with | [a0, a1], _ => by cases hp; exact ⟨rfl, .of_eq rfl⟩, fun _ h => by cases h⟩
theorem ok_renamed (B : BaseK P w K mg) (D : Defs K mg) : CalOk P w K mg base kt 16 ⟨#[114, 101, 110, 97, 109, 101, 100]⟩ 2 f_renamed :=
  cal_of (c := crenamed f_end_names f_need_wheel (f_tupled 14)) (k := 15) D.d38 s_renamed v_renamed (lib_of (kt := kt) (base := base) B (List.forall_mem_cons.mpr ⟨(ok_end_names B D).mono (by omega), List.forall_mem_cons.mpr ⟨(ok_need_wheel B D).mono (by omega), List.forall_mem_cons.mpr ⟨(ok_tupled B D 14).mono (by omega), fun e h => by cases h⟩⟩⟩) (fun e h => by cases h)) (rrenamed f_end_names f_need_wheel (f_tupled 14)) a_renamed k_renamed (by decide +kernel) rfl rfl
theorem s__law_box : FnScope n_law_box [⟨#[95, 108, 97, 119, 95, 115, 99, 114, 105, 112, 116]⟩, ⟨#[95, 108, 97, 119, 95, 107]⟩] (defScope (topS 40)) := ⟨rfl, rfl, rfl, by decide +kernel, rfl, by decide +kernel, by decide +kernel⟩
theorem v__law_box : ∀ y ∈ n_law_box, (y == ("__debug__" : Str)) = false ∧ (y == ("__classdict__" : Str)) = false := by decide +kernel
theorem a__law_box : BindOk K ⟨#[95, 108, 97, 119, 95, 98, 111, 120]⟩ (topS 40) [⟨#[95, 108, 97, 119, 95, 115, 99, 114, 105, 112, 116]⟩, ⟨#[95, 108, 97, 119, 95, 107]⟩] := fun a fd F => F.binds fun _ _ _ _ _ _ us hl => match us, hl with | [_, _], _ => rfl
theorem k__law_box : KwsOk K ⟨#[95, 108, 97, 119, 95, 98, 111, 120]⟩ (topS 40) [⟨#[95, 108, 97, 119, 95, 115, 99, 114, 105, 112, 116]⟩, ⟨#[95, 108, 97, 119, 95, 107]⟩] (kt ⟨#[95, 108, 97, 119, 95, 98, 111, 120]⟩) := by
  have e0 : kt ⟨#[95, 108, 97, 119, 95, 98, 111, 120]⟩ = [] := by rfl
  rw [e0]
  intro a fd F
  intro e h
  cases h
theorem ok__law_box (B : BaseK P w K mg) (D : Defs K mg) : CalOk P w K mg base kt 1 ⟨#[95, 108, 97, 119, 95, 98, 111, 120]⟩ 2 f__law_box :=
  cal_of (c := c_law_box) (k := 0) D.d40 s__law_box v__law_box (lib_of (kt := kt) (base := base) B (fun e h => by cases h) (fun e h => by cases h)) (r_law_box) a__law_box k__law_box (by decide +kernel) rfl rfl
theorem s__law_take : FnScope n_law_take [⟨#[95, 108, 97, 119, 95, 116, 117, 98]⟩, ⟨#[95, 108, 97, 119, 95, 116, 111, 112, 95, 116, 111]⟩] (defScope (topS 41)) := ⟨rfl, rfl, rfl, by decide +kernel, rfl, by decide +kernel, by decide +kernel⟩
theorem v__law_take : ∀ y ∈ n_law_take, (y == ("__debug__" : Str)) = false ∧ (y == ("__classdict__" : Str)) = false := by decide +kernel
theorem a__law_take : BindOk K ⟨#[95, 108, 97, 119, 95, 116, 97, 107, 101]⟩ (topS 41) [⟨#[95, 108, 97, 119, 95, 116, 117, 98]⟩, ⟨#[95, 108, 97, 119, 95, 116, 111, 112, 95, 116, 111]⟩] := fun a fd F => F.binds fun _ _ _ _ _ _ us hl => match us, hl with | [_, _], _ => rfl
theorem k__law_take : KwsOk K ⟨#[95, 108, 97, 119, 95, 116, 97, 107, 101]⟩ (topS 41) [⟨#[95, 108, 97, 119, 95, 116, 117, 98]⟩, ⟨#[95, 108, 97, 119, 95, 116, 111, 112, 95, 116, 111]⟩] (kt ⟨#[95, 108, 97, 119, 95, 116, 97, 107, 101]⟩) := by
  have e0 : kt ⟨#[95, 108, 97, 119, 95, 116, 97, 107, 101]⟩ = [] := by rfl
  rw [e0]
  intro a fd F
  intro e h
  cases h
theorem ok__law_take (B : BaseK P w K mg) (D : Defs K mg) : CalOk P w K mg base kt 1 ⟨#[95, 108, 97, 119, 95, 116, 97, 107, 101]⟩ 2 f__law_take :=
  cal_of (c := c_law_take) (k := 0) D.d41 s__law_take v__law_take (lib_of (kt := kt) (base := base) B (fun e h => by cases h) (fun e h => by cases h)) (r_law_take) a__law_take k__law_take (by decide +kernel) rfl rfl
theorem s__law_cells : FnScope n_law_cells [⟨#[95, 108, 97, 119, 95, 115, 99, 114, 105, 112, 116]⟩, ⟨#[95, 108, 97, 119, 95, 109, 111, 115, 116, 95, 115, 111]⟩] (defScope (topS 42)) := ⟨rfl, rfl, rfl, by decide +kernel, rfl, by decide +kernel, by decide +kernel⟩
theorem v__law_cells : ∀ y ∈ n_law_cells, (y == ("__debug__" : Str)) = false ∧ (y == ("__classdict__" : Str)) = false := by decide +kernel
theorem a__law_cells : BindOk K ⟨#[95, 108, 97, 119, 95, 99, 101, 108, 108, 115]⟩ (topS 42) [⟨#[95, 108, 97, 119, 95, 115, 99, 114, 105, 112, 116]⟩, ⟨#[95, 108, 97, 119, 95, 109, 111, 115, 116, 95, 115, 111]⟩] := fun a fd F => F.binds fun _ _ _ _ _ _ us hl => match us, hl with | [_, _], _ => rfl
theorem k__law_cells : KwsOk K ⟨#[95, 108, 97, 119, 95, 99, 101, 108, 108, 115]⟩ (topS 42) [⟨#[95, 108, 97, 119, 95, 115, 99, 114, 105, 112, 116]⟩, ⟨#[95, 108, 97, 119, 95, 109, 111, 115, 116, 95, 115, 111]⟩] (kt ⟨#[95, 108, 97, 119, 95, 99, 101, 108, 108, 115]⟩) := by
  have e0 : kt ⟨#[95, 108, 97, 119, 95, 99, 101, 108, 108, 115]⟩ = [] := by rfl
  rw [e0]
  intro a fd F
  intro e h
  cases h
theorem ok__law_cells (B : BaseK P w K mg) (D : Defs K mg) : CalOk P w K mg base kt 1 ⟨#[95, 108, 97, 119, 95, 99, 101, 108, 108, 115]⟩ 2 f__law_cells :=
  cal_of (c := c_law_cells) (k := 0) D.d42 s__law_cells v__law_cells (lib_of (kt := kt) (base := base) B (fun e h => by cases h) (fun e h => by cases h)) (r_law_cells) a__law_cells k__law_cells (by decide +kernel) rfl rfl
theorem s__law_pick : FnScope n_law_pick [⟨#[95, 108, 97, 119, 95, 116, 117, 98]⟩, ⟨#[95, 108, 97, 119, 95, 102, 101, 119, 95, 115, 111]⟩, ⟨#[95, 108, 97, 119, 95, 109, 117, 99, 104, 95, 115, 111]⟩] (defScope (topS 43)) := ⟨rfl, rfl, rfl, by decide +kernel, rfl, by decide +kernel, by decide +kernel⟩
theorem v__law_pick : ∀ y ∈ n_law_pick, (y == ("__debug__" : Str)) = false ∧ (y == ("__classdict__" : Str)) = false := by decide +kernel
theorem a__law_pick : BindOk K ⟨#[95, 108, 97, 119, 95, 112, 105, 99, 107]⟩ (topS 43) [⟨#[95, 108, 97, 119, 95, 116, 117, 98]⟩, ⟨#[95, 108, 97, 119, 95, 102, 101, 119, 95, 115, 111]⟩, ⟨#[95, 108, 97, 119, 95, 109, 117, 99, 104, 95, 115, 111]⟩] := fun a fd F => F.binds fun _ _ _ _ _ _ us hl => match us, hl with | [_, _, _], _ => rfl
theorem k__law_pick : KwsOk K ⟨#[95, 108, 97, 119, 95, 112, 105, 99, 107]⟩ (topS 43) [⟨#[95, 108, 97, 119, 95, 116, 117, 98]⟩, ⟨#[95, 108, 97, 119, 95, 102, 101, 119, 95, 115, 111]⟩, ⟨#[95, 108, 97, 119, 95, 109, 117, 99, 104, 95, 115, 111]⟩] (kt ⟨#[95, 108, 97, 119, 95, 112, 105, 99, 107]⟩) := by
  have e0 : kt ⟨#[95, 108, 97, 119, 95, 112, 105, 99, 107]⟩ = [] := by rfl
  rw [e0]
  intro a fd F
  intro e h
  cases h
theorem ok__law_pick (B : BaseK P w K mg) (D : Defs K mg) : CalOk P w K mg base kt 2 ⟨#[95, 108, 97, 119, 95, 112, 105, 99, 107]⟩ 3 f__law_pick :=
  cal_of (c := c_law_pick f__law_take) (k := 1) D.d43 s__law_pick v__law_pick (lib_of (kt := kt) (base := base) B (List.forall_mem_cons.mpr ⟨(ok__law_take B D).mono (by omega), fun e h => by cases h⟩) (fun e h => by cases h)) (r_law_pick f__law_take) a__law_pick k__law_pick (by decide +kernel) rfl rfl
theorem s__law_same : FnScope n_law_same [⟨#[95, 108, 97, 119, 95, 103, 111, 116]⟩, ⟨#[95, 108, 97, 119, 95, 100, 117, 101]⟩] (defScope (topS 44)) := ⟨rfl, rfl, rfl, by decide +kernel, rfl, by decide +kernel, by decide +kernel⟩
theorem v__law_same : ∀ y ∈ n_law_same, (y == ("__debug__" : Str)) = false ∧ (y == ("__classdict__" : Str)) = false := by decide +kernel
theorem a__law_same : BindOk K ⟨#[95, 108, 97, 119, 95, 115, 97, 109, 101]⟩ (topS 44) [⟨#[95, 108, 97, 119, 95, 103, 111, 116]⟩, ⟨#[95, 108, 97, 119, 95, 100, 117, 101]⟩] := fun a fd F => F.binds fun _ _ _ _ _ _ us hl => match us, hl with | [_, _], _ => rfl
theorem k__law_same : KwsOk K ⟨#[95, 108, 97, 119, 95, 115, 97, 109, 101]⟩ (topS 44) [⟨#[95, 108, 97, 119, 95, 103, 111, 116]⟩, ⟨#[95, 108, 97, 119, 95, 100, 117, 101]⟩] (kt ⟨#[95, 108, 97, 119, 95, 115, 97, 109, 101]⟩) := by
  have e0 : kt ⟨#[95, 108, 97, 119, 95, 115, 97, 109, 101]⟩ = [] := by rfl
  rw [e0]
  intro a fd F
  intro e h
  cases h
theorem ok__law_same (B : BaseK P w K mg) (D : Defs K mg) : ∀ j : Nat, CalOk P w K mg base kt (0 + j) ⟨#[95, 108, 97, 119, 95, 115, 97, 109, 101]⟩ 2 (f__law_same j)
  | 0 => cal_bad D.d44 a__law_same k__law_same (by decide +kernel) rfl
  | j + 1 => cal_of (c := c_law_same (f__law_same j)) (k := 0 + j) D.d44 s__law_same v__law_same (lib_of (kt := kt) (base := base) B (List.forall_mem_cons.mpr ⟨ok__law_same B D j, fun e h => by cases h⟩) (fun e h => by cases h)) (r_law_same (f__law_same j)) a__law_same k__law_same (by decide +kernel) rfl rfl
theorem s__law_lists : FnScope n_law_lists [⟨#[95, 108, 97, 119, 95, 109, 97, 116, 116, 101, 114]⟩] (defScope (topS 45)) := ⟨rfl, rfl, rfl, by decide +kernel, rfl, by decide +kernel, by decide +kernel⟩
theorem v__law_lists : ∀ y ∈ n_law_lists, (y == ("__debug__" : Str)) = false ∧ (y == ("__classdict__" : Str)) = false := by decide +kernel
theorem a__law_lists : BindOk K ⟨#[95, 108, 97, 119, 95, 108, 105, 115, 116, 115]⟩ (topS 45) [⟨#[95, 108, 97, 119, 95, 109, 97, 116, 116, 101, 114]⟩] := fun a fd F => F.binds fun _ _ _ _ _ _ us hl => match us, hl with | [_], _ => rfl
theorem k__law_lists : KwsOk K ⟨#[95, 108, 97, 119, 95, 108, 105, 115, 116, 115]⟩ (topS 45) [⟨#[95, 108, 97, 119, 95, 109, 97, 116, 116, 101, 114]⟩] (kt ⟨#[95, 108, 97, 119, 95, 108, 105, 115, 116, 115]⟩) := by
  have e0 : kt ⟨#[95, 108, 97, 119, 95, 108, 105, 115, 116, 115]⟩ = [] := by rfl
  rw [e0]
  intro a fd F
  intro e h
  cases h
theorem ok__law_lists (B : BaseK P w K mg) (D : Defs K mg) : ∀ j : Nat, CalOk P w K mg base kt (0 + j) ⟨#[95, 108, 97, 119, 95, 108, 105, 115, 116, 115]⟩ 1 (f__law_lists j)
  | 0 => cal_bad D.d45 a__law_lists k__law_lists (by decide +kernel) rfl
  | j + 1 => cal_of (c := c_law_lists (f__law_lists j)) (k := 0 + j) D.d45 s__law_lists v__law_lists (lib_of (kt := kt) (base := base) B (List.forall_mem_cons.mpr ⟨ok__law_lists B D j, fun e h => by cases h⟩) (fun e h => by cases h)) (r_law_lists (f__law_lists j)) a__law_lists k__law_lists (by decide +kernel) rfl rfl
theorem s__law_half : FnScope n_law_half [⟨#[95, 108, 97, 119, 95, 109, 97, 116, 116, 101, 114]⟩] (defScope (topS 46)) := ⟨rfl, rfl, rfl, by decide +kernel, rfl, by decide +kernel, by decide +kernel⟩
theorem v__law_half : ∀ y ∈ n_law_half, (y == ("__debug__" : Str)) = false ∧ (y == ("__classdict__" : Str)) = false := by decide +kernel
theorem a__law_half : BindOk K ⟨#[95, 108, 97, 119, 95, 104, 97, 108, 102]⟩ (topS 46) [⟨#[95, 108, 97, 119, 95, 109, 97, 116, 116, 101, 114]⟩] := fun a fd F => F.binds fun _ _ _ _ _ _ us hl => match us, hl with | [_], _ => rfl
theorem k__law_half : KwsOk K ⟨#[95, 108, 97, 119, 95, 104, 97, 108, 102]⟩ (topS 46) [⟨#[95, 108, 97, 119, 95, 109, 97, 116, 116, 101, 114]⟩] (kt ⟨#[95, 108, 97, 119, 95, 104, 97, 108, 102]⟩) := by
  have e0 : kt ⟨#[95, 108, 97, 119, 95, 104, 97, 108, 102]⟩ = [] := by rfl
  rw [e0]
  intro a fd F
  intro e h
  cases h
theorem ok__law_half (B : BaseK P w K mg) (D : Defs K mg) : CalOk P w K mg base kt 16 ⟨#[95, 108, 97, 119, 95, 104, 97, 108, 102]⟩ 1 f__law_half :=
  cal_of (c := c_law_half (f__law_lists 14)) (k := 15) D.d46 s__law_half v__law_half (lib_of (kt := kt) (base := base) B (List.forall_mem_cons.mpr ⟨(ok__law_lists B D 14).mono (by omega), fun e h => by cases h⟩) (fun e h => by cases h)) (r_law_half (f__law_lists 14)) a__law_half k__law_half (by decide +kernel) rfl rfl
theorem s__law_wheels : FnScope n_law_wheels [⟨#[95, 108, 97, 119, 95, 116, 117, 98]⟩, ⟨#[95, 108, 97, 119, 95, 109, 111, 115, 116, 95, 115, 111]⟩] (defScope (topS 47)) := ⟨rfl, rfl, rfl, by decide +kernel, rfl, by decide +kernel, by decide +kernel⟩
theorem v__law_wheels : ∀ y ∈ n_law_wheels, (y == ("__debug__" : Str)) = false ∧ (y == ("__classdict__" : Str)) = false := by decide +kernel
theorem a__law_wheels : BindOk K ⟨#[95, 108, 97, 119, 95, 119, 104, 101, 101, 108, 115]⟩ (topS 47) [⟨#[95, 108, 97, 119, 95, 116, 117, 98]⟩, ⟨#[95, 108, 97, 119, 95, 109, 111, 115, 116, 95, 115, 111]⟩] := fun a fd F => F.binds fun _ _ _ _ _ _ us hl => match us, hl with | [_, _], _ => rfl
theorem k__law_wheels : KwsOk K ⟨#[95, 108, 97, 119, 95, 119, 104, 101, 101, 108, 115]⟩ (topS 47) [⟨#[95, 108, 97, 119, 95, 116, 117, 98]⟩, ⟨#[95, 108, 97, 119, 95, 109, 111, 115, 116, 95, 115, 111]⟩] (kt ⟨#[95, 108, 97, 119, 95, 119, 104, 101, 101, 108, 115]⟩) := by
  have e0 : kt ⟨#[95, 108, 97, 119, 95, 119, 104, 101, 101, 108, 115]⟩ = [] := by rfl
  rw [e0]
  intro a fd F
  intro e h
  cases h
theorem ok__law_wheels (B : BaseK P w K mg) (D : Defs K mg) : CalOk P w K mg base kt 3 ⟨#[95, 108, 97, 119, 95, 119, 104, 101, 101, 108, 115]⟩ 2 f__law_wheels :=
  cal_of (c := c_law_wheels f__law_pick f__law_take) (k := 2) D.d47 s__law_wheels v__law_wheels (lib_of (kt := kt) (base := base) B (List.forall_mem_cons.mpr ⟨(ok__law_pick B D).mono (by omega), List.forall_mem_cons.mpr ⟨(ok__law_take B D).mono (by omega), fun e h => by cases h⟩⟩) (fun e h => by cases h)) (r_law_wheels f__law_pick f__law_take) a__law_wheels k__law_wheels (by decide +kernel) rfl rfl
theorem s__law_kept : FnScope n_law_kept [⟨#[95, 108, 97, 119, 95, 116, 97, 98, 108, 101, 95, 104, 101, 114, 101]⟩, ⟨#[95, 108, 97, 119, 95, 115, 97, 121, 105, 110, 103, 95, 115, 111]⟩] (defScope (topS 48)) := ⟨rfl, rfl, rfl, by decide +kernel, rfl, by decide +kernel, by decide +kernel⟩
theorem v__law_kept : ∀ y ∈ n_law_kept, (y == ("__debug__" : Str)) = false ∧ (y == ("__classdict__" : Str)) = false := by decide +kernel
theorem a__law_kept : BindOk K ⟨#[95, 108, 97, 119, 95, 107, 101, 112, 116]⟩ (topS 48) [⟨#[95, 108, 97, 119, 95, 116, 97, 98, 108, 101, 95, 104, 101, 114, 101]⟩, ⟨#[95, 108, 97, 119, 95, 115, 97, 121, 105, 110, 103, 95, 115, 111]⟩] := fun a fd F => F.binds fun _ _ _ _ _ _ us hl => match us, hl with | [_, _], _ => rfl
theorem k__law_kept : KwsOk K ⟨#[95, 108, 97, 119, 95, 107, 101, 112, 116]⟩ (topS 48) [⟨#[95, 108, 97, 119, 95, 116, 97, 98, 108, 101, 95, 104, 101, 114, 101]⟩, ⟨#[95, 108, 97, 119, 95, 115, 97, 121, 105, 110, 103, 95, 115, 111]⟩] (kt ⟨#[95, 108, 97, 119, 95, 107, 101, 112, 116]⟩) := by
  have e0 : kt ⟨#[95, 108, 97, 119, 95, 107, 101, 112, 116]⟩ = [] := by rfl
  rw [e0]
  intro a fd F
  intro e h
  cases h
theorem ok__law_kept (B : BaseK P w K mg) (D : Defs K mg) : CalOk P w K mg base kt 1 ⟨#[95, 108, 97, 119, 95, 107, 101, 112, 116]⟩ 2 f__law_kept :=
  cal_of (c := c_law_kept) (k := 0) D.d48 s__law_kept v__law_kept (lib_of (kt := kt) (base := base) B (fun e h => by cases h) (fun e h => by cases h)) (r_law_kept) a__law_kept k__law_kept (by decide +kernel) rfl rfl
theorem s__law_begins : FnScope n_law_begins [⟨#[95, 108, 97, 119, 95, 116, 117, 98]⟩, ⟨#[95, 108, 97, 119, 95, 109, 105, 108, 108, 95, 115, 111]⟩] (defScope (topS 49)) := ⟨rfl, rfl, rfl, by decide +kernel, rfl, by decide +kernel, by decide +kernel⟩
theorem v__law_begins : ∀ y ∈ n_law_begins, (y == ("__debug__" : Str)) = false ∧ (y == ("__classdict__" : Str)) = false := by decide +kernel
theorem a__law_begins : BindOk K ⟨#[95, 108, 97, 119, 95, 98, 101, 103, 105, 110, 115]⟩ (topS 49) [⟨#[95, 108, 97, 119, 95, 116, 117, 98]⟩, ⟨#[95, 108, 97, 119, 95, 109, 105, 108, 108, 95, 115, 111]⟩] := fun a fd F => F.binds fun _ _ _ _ _ _ us hl => match us, hl with | [_, _], _ => rfl
theorem k__law_begins : KwsOk K ⟨#[95, 108, 97, 119, 95, 98, 101, 103, 105, 110, 115]⟩ (topS 49) [⟨#[95, 108, 97, 119, 95, 116, 117, 98]⟩, ⟨#[95, 108, 97, 119, 95, 109, 105, 108, 108, 95, 115, 111]⟩] (kt ⟨#[95, 108, 97, 119, 95, 98, 101, 103, 105, 110, 115]⟩) := by
  have e0 : kt ⟨#[95, 108, 97, 119, 95, 98, 101, 103, 105, 110, 115]⟩ = [] := by rfl
  rw [e0]
  intro a fd F
  intro e h
  cases h
theorem ok__law_begins (B : BaseK P w K mg) (D : Defs K mg) : CalOk P w K mg base kt 2 ⟨#[95, 108, 97, 119, 95, 98, 101, 103, 105, 110, 115]⟩ 2 f__law_begins :=
  cal_of (c := c_law_begins f__law_take) (k := 1) D.d49 s__law_begins v__law_begins (lib_of (kt := kt) (base := base) B (List.forall_mem_cons.mpr ⟨(ok__law_take B D).mono (by omega), fun e h => by cases h⟩) (fun e h => by cases h)) (r_law_begins f__law_take) a__law_begins k__law_begins (by decide +kernel) rfl rfl
theorem s__law_table : FnScope n_law_table [⟨#[95, 108, 97, 119, 95, 98, 101, 103, 105, 110, 115, 95, 115, 111]⟩] (defScope (topS 50)) := ⟨rfl, rfl, rfl, by decide +kernel, rfl, by decide +kernel, by decide +kernel⟩
theorem v__law_table : ∀ y ∈ n_law_table, (y == ("__debug__" : Str)) = false ∧ (y == ("__classdict__" : Str)) = false := by decide +kernel
theorem a__law_table : BindOk K ⟨#[95, 108, 97, 119, 95, 116, 97, 98, 108, 101]⟩ (topS 50) [⟨#[95, 108, 97, 119, 95, 98, 101, 103, 105, 110, 115, 95, 115, 111]⟩] := fun a fd F => F.binds fun _ _ _ _ _ _ us hl => match us, hl with | [_], _ => rfl
theorem k__law_table : KwsOk K ⟨#[95, 108, 97, 119, 95, 116, 97, 98, 108, 101]⟩ (topS 50) [⟨#[95, 108, 97, 119, 95, 98, 101, 103, 105, 110, 115, 95, 115, 111]⟩] (kt ⟨#[95, 108, 97, 119, 95, 116, 97, 98, 108, 101]⟩) := by
  have e0 : kt ⟨#[95, 108, 97, 119, 95, 116, 97, 98, 108, 101]⟩ = [] := by rfl
  rw [e0]
  intro a fd F
  intro e h
  cases h
theorem ok__law_table (B : BaseK P w K mg) (D : Defs K mg) : CalOk P w K mg base kt 1 ⟨#[95, 108, 97, 119, 95, 116, 97, 98, 108, 101]⟩ 1 f__law_table :=
  cal_of (c := c_law_table) (k := 0) D.d50 s__law_table v__law_table (lib_of (kt := kt) (base := base) B (fun e h => by cases h) (fun e h => by cases h)) (r_law_table) a__law_table k__law_table (by decide +kernel) rfl rfl
theorem s__law_kit : FnScope n_law_kit [] (defScope (topS 51)) := ⟨rfl, rfl, rfl, by decide +kernel, rfl, by decide +kernel, by decide +kernel⟩
theorem v__law_kit : ∀ y ∈ n_law_kit, (y == ("__debug__" : Str)) = false ∧ (y == ("__classdict__" : Str)) = false := by decide +kernel
theorem a__law_kit : BindOk K ⟨#[95, 108, 97, 119, 95, 107, 105, 116]⟩ (topS 51) [] := fun a fd F => F.binds fun _ _ _ _ _ _ us hl => match us, hl with | [], _ => rfl
theorem k__law_kit : KwsOk K ⟨#[95, 108, 97, 119, 95, 107, 105, 116]⟩ (topS 51) [] (kt ⟨#[95, 108, 97, 119, 95, 107, 105, 116]⟩) := by
  have e0 : kt ⟨#[95, 108, 97, 119, 95, 107, 105, 116]⟩ = [] := by rfl
  rw [e0]
  intro a fd F
  intro e h
  cases h
theorem ok__law_kit (B : BaseK P w K mg) (D : Defs K mg) : CalOk P w K mg base kt 1 ⟨#[95, 108, 97, 119, 95, 107, 105, 116]⟩ 0 f__law_kit :=
  cal_of (c := c_law_kit) (k := 0) D.d51 s__law_kit v__law_kit (lib_of (kt := kt) (base := base) B (fun e h => by cases h) (fun e h => by cases h)) (r_law_kit) a__law_kit k__law_kit (by decide +kernel) rfl rfl
theorem s__law_pair : FnScope n_law_pair [⟨#[95, 108, 97, 119, 95, 116, 117, 98]⟩, ⟨#[95, 108, 97, 119, 95, 109, 111, 115, 116, 95, 115, 111]⟩, ⟨#[95, 108, 97, 119, 95, 109, 97, 110, 121, 95, 115, 111]⟩] (defScope (topS 52)) := ⟨rfl, rfl, rfl, by decide +kernel, rfl, by decide +kernel, by decide +kernel⟩
theorem v__law_pair : ∀ y ∈ n_law_pair, (y == ("__debug__" : Str)) = false ∧ (y == ("__classdict__" : Str)) = false := by decide +kernel
theorem a__law_pair : BindOk K ⟨#[95, 108, 97, 119, 95, 112, 97, 105, 114]⟩ (topS 52) [⟨#[95, 108, 97, 119, 95, 116, 117, 98]⟩, ⟨#[95, 108, 97, 119, 95, 109, 111, 115, 116, 95, 115, 111]⟩, ⟨#[95, 108, 97, 119, 95, 109, 97, 110, 121, 95, 115, 111]⟩] := fun a fd F => F.binds fun _ _ _ _ _ _ us hl => match us, hl with | [_, _, _], _ => rfl
theorem k__law_pair : KwsOk K ⟨#[95, 108, 97, 119, 95, 112, 97, 105, 114]⟩ (topS 52) [⟨#[95, 108, 97, 119, 95, 116, 117, 98]⟩, ⟨#[95, 108, 97, 119, 95, 109, 111, 115, 116, 95, 115, 111]⟩, ⟨#[95, 108, 97, 119, 95, 109, 97, 110, 121, 95, 115, 111]⟩] (kt ⟨#[95, 108, 97, 119, 95, 112, 97, 105, 114]⟩) := by
  have e0 : kt ⟨#[95, 108, 97, 119, 95, 112, 97, 105, 114]⟩ = [] := by rfl
  rw [e0]
  intro a fd F
  intro e h
  cases h
theorem ok__law_pair (B : BaseK P w K mg) (D : Defs K mg) : CalOk P w K mg base kt 4 ⟨#[95, 108, 97, 119, 95, 112, 97, 105, 114]⟩ 3 f__law_pair :=
  cal_of (c := c_law_pair f__law_pick f__law_take f__law_wheels) (k := 3) D.d52 s__law_pair v__law_pair (lib_of (kt := kt) (base := base) B (List.forall_mem_cons.mpr ⟨(ok__law_pick B D).mono (by omega), List.forall_mem_cons.mpr ⟨(ok__law_take B D).mono (by omega), List.forall_mem_cons.mpr ⟨(ok__law_wheels B D).mono (by omega), fun e h => by cases h⟩⟩⟩) (fun e h => by cases h)) (r_law_pair f__law_pick f__law_take f__law_wheels) a__law_pair k__law_pair (by decide +kernel) rfl rfl
theorem s__law_heard : FnScope n_law_heard [⟨#[95, 108, 97, 119, 95, 109, 105, 108, 108, 95, 115, 111]⟩, ⟨#[95, 108, 97, 119, 95, 98, 101, 103, 105, 110, 115, 95, 115, 111]⟩, ⟨#[95, 108, 97, 119, 95, 116, 97, 103]⟩] (defScope (topS 53)) := ⟨rfl, rfl, rfl, by decide +kernel, rfl, by decide +kernel, by decide +kernel⟩
theorem v__law_heard : ∀ y ∈ n_law_heard, (y == ("__debug__" : Str)) = false ∧ (y == ("__classdict__" : Str)) = false := by decide +kernel
theorem a__law_heard : BindOk K ⟨#[95, 108, 97, 119, 95, 104, 101, 97, 114, 100]⟩ (topS 53) [⟨#[95, 108, 97, 119, 95, 109, 105, 108, 108, 95, 115, 111]⟩, ⟨#[95, 108, 97, 119, 95, 98, 101, 103, 105, 110, 115, 95, 115, 111]⟩, ⟨#[95, 108, 97, 119, 95, 116, 97, 103]⟩] := fun a fd F => F.binds fun _ _ _ _ _ _ us hl => match us, hl with | [_, _, _], _ => rfl
theorem k__law_heard : KwsOk K ⟨#[95, 108, 97, 119, 95, 104, 101, 97, 114, 100]⟩ (topS 53) [⟨#[95, 108, 97, 119, 95, 109, 105, 108, 108, 95, 115, 111]⟩, ⟨#[95, 108, 97, 119, 95, 98, 101, 103, 105, 110, 115, 95, 115, 111]⟩, ⟨#[95, 108, 97, 119, 95, 116, 97, 103]⟩] (kt ⟨#[95, 108, 97, 119, 95, 104, 101, 97, 114, 100]⟩) := by
  have e0 : kt ⟨#[95, 108, 97, 119, 95, 104, 101, 97, 114, 100]⟩ = [] := by rfl
  rw [e0]
  intro a fd F
  intro e h
  cases h
theorem ok__law_heard (B : BaseK P w K mg) (D : Defs K mg) : CalOk P w K mg base kt 3 ⟨#[95, 108, 97, 119, 95, 104, 101, 97, 114, 100]⟩ 3 f__law_heard :=
  cal_of (c := c_law_heard f_off_by) (k := 2) D.d53 s__law_heard v__law_heard (lib_of (kt := kt) (base := base) B (List.forall_mem_cons.mpr ⟨(ok_off_by B D).mono (by omega), fun e h => by cases h⟩) (fun e h => by cases h)) (r_law_heard f_off_by) a__law_heard k__law_heard (by decide +kernel) rfl rfl
theorem s__law_begins_right : FnScope n_law_begins_right [⟨#[95, 108, 97, 119, 95, 107, 105, 116, 95, 104, 101, 114, 101]⟩] (defScope (topS 55)) := ⟨rfl, rfl, rfl, by decide +kernel, rfl, by decide +kernel, by decide +kernel⟩
theorem v__law_begins_right : ∀ y ∈ n_law_begins_right, (y == ("__debug__" : Str)) = false ∧ (y == ("__classdict__" : Str)) = false := by decide +kernel
theorem a__law_begins_right : BindOk K ⟨#[95, 108, 97, 119, 95, 98, 101, 103, 105, 110, 115, 95, 114, 105, 103, 104, 116]⟩ (topS 55) [⟨#[95, 108, 97, 119, 95, 107, 105, 116, 95, 104, 101, 114, 101]⟩] := fun a fd F => F.binds fun _ _ _ _ _ _ us hl => match us, hl with | [_], _ => rfl
theorem k__law_begins_right : KwsOk K ⟨#[95, 108, 97, 119, 95, 98, 101, 103, 105, 110, 115, 95, 114, 105, 103, 104, 116]⟩ (topS 55) [⟨#[95, 108, 97, 119, 95, 107, 105, 116, 95, 104, 101, 114, 101]⟩] (kt ⟨#[95, 108, 97, 119, 95, 98, 101, 103, 105, 110, 115, 95, 114, 105, 103, 104, 116]⟩) := by
  have e0 : kt ⟨#[95, 108, 97, 119, 95, 98, 101, 103, 105, 110, 115, 95, 114, 105, 103, 104, 116]⟩ = [] := by rfl
  rw [e0]
  intro a fd F
  intro e h
  cases h
theorem ok__law_begins_right (B : BaseK P w K mg) (D : Defs K mg) : CalOk P w K mg base kt 16 ⟨#[95, 108, 97, 119, 95, 98, 101, 103, 105, 110, 115, 95, 114, 105, 103, 104, 116]⟩ 1 f__law_begins_right :=
  cal_of (c := c_law_begins_right (f__law_lists 14) (f__law_same 14) f_is_begins f_is_mill f_is_setting) (k := 15) D.d55 s__law_begins_right v__law_begins_right (lib_of (kt := kt) (base := base) B (List.forall_mem_cons.mpr ⟨(ok__law_lists B D 14).mono (by omega), List.forall_mem_cons.mpr ⟨(ok__law_same B D 14).mono (by omega), List.forall_mem_cons.mpr ⟨(ok_is_begins B D).mono (by omega), List.forall_mem_cons.mpr ⟨(ok_is_mill B D).mono (by omega), List.forall_mem_cons.mpr ⟨(ok_is_setting B D).mono (by omega), fun e h => by cases h⟩⟩⟩⟩⟩) (by decide +kernel)) (r_law_begins_right (f__law_lists 14) (f__law_same 14) f_is_begins f_is_mill f_is_setting) a__law_begins_right k__law_begins_right (by decide +kernel) rfl rfl
theorem s__law_refusal : FnScope n_law_refusal [⟨#[95, 108, 97, 119, 95, 100, 111, 111, 114]⟩, ⟨#[95, 108, 97, 119, 95, 109, 105, 108, 108, 95, 115, 111]⟩, ⟨#[95, 108, 97, 119, 95, 109, 97, 116, 116, 101, 114]⟩] (defScope (topS 57)) := ⟨rfl, rfl, rfl, by decide +kernel, rfl, by decide +kernel, by decide +kernel⟩
theorem v__law_refusal : ∀ y ∈ n_law_refusal, (y == ("__debug__" : Str)) = false ∧ (y == ("__classdict__" : Str)) = false := by decide +kernel
theorem a__law_refusal : BindOk K ⟨#[95, 108, 97, 119, 95, 114, 101, 102, 117, 115, 97, 108]⟩ (topS 57) [⟨#[95, 108, 97, 119, 95, 100, 111, 111, 114]⟩, ⟨#[95, 108, 97, 119, 95, 109, 105, 108, 108, 95, 115, 111]⟩, ⟨#[95, 108, 97, 119, 95, 109, 97, 116, 116, 101, 114]⟩] := fun a fd F => F.binds fun _ _ _ _ _ _ us hl => match us, hl with | [_, _, _], _ => rfl
theorem k__law_refusal : KwsOk K ⟨#[95, 108, 97, 119, 95, 114, 101, 102, 117, 115, 97, 108]⟩ (topS 57) [⟨#[95, 108, 97, 119, 95, 100, 111, 111, 114]⟩, ⟨#[95, 108, 97, 119, 95, 109, 105, 108, 108, 95, 115, 111]⟩, ⟨#[95, 108, 97, 119, 95, 109, 97, 116, 116, 101, 114]⟩] (kt ⟨#[95, 108, 97, 119, 95, 114, 101, 102, 117, 115, 97, 108]⟩) := by
  have e0 : kt ⟨#[95, 108, 97, 119, 95, 114, 101, 102, 117, 115, 97, 108]⟩ = [] := by rfl
  rw [e0]
  intro a fd F
  intro e h
  cases h
theorem ok__law_refusal (B : BaseK P w K mg) (D : Defs K mg) : CalOk P w K mg base kt 17 ⟨#[95, 108, 97, 119, 95, 114, 101, 102, 117, 115, 97, 108]⟩ 3 f__law_refusal :=
  cal_of (c := c_law_refusal f_renamed f_shifted f_turned_saying f_with_saying f_with_wheel f_without_saying f_without_wheel) (k := 16) D.d57 s__law_refusal v__law_refusal (lib_of (kt := kt) (base := base) B (List.forall_mem_cons.mpr ⟨(ok_renamed B D).mono (by omega), List.forall_mem_cons.mpr ⟨(ok_shifted B D).mono (by omega), List.forall_mem_cons.mpr ⟨(ok_turned_saying B D).mono (by omega), List.forall_mem_cons.mpr ⟨(ok_with_saying B D).mono (by omega), List.forall_mem_cons.mpr ⟨(ok_with_wheel B D).mono (by omega), List.forall_mem_cons.mpr ⟨(ok_without_saying B D).mono (by omega), List.forall_mem_cons.mpr ⟨(ok_without_wheel B D).mono (by omega), fun e h => by cases h⟩⟩⟩⟩⟩⟩⟩) (fun e h => by cases h)) (r_law_refusal f_renamed f_shifted f_turned_saying f_with_saying f_with_wheel f_without_saying f_without_wheel) a__law_refusal k__law_refusal (by decide +kernel) rfl rfl
theorem s__law_refused_right : FnScope n_law_refused_right [⟨#[95, 108, 97, 119, 95, 107, 105, 116, 95, 104, 101, 114, 101]⟩] (defScope (topS 59)) := ⟨rfl, rfl, rfl, by decide +kernel, rfl, by decide +kernel, by decide +kernel⟩
theorem v__law_refused_right : ∀ y ∈ n_law_refused_right, (y == ("__debug__" : Str)) = false ∧ (y == ("__classdict__" : Str)) = false := by decide +kernel
theorem a__law_refused_right : BindOk K ⟨#[95, 108, 97, 119, 95, 114, 101, 102, 117, 115, 101, 100, 95, 114, 105, 103, 104, 116]⟩ (topS 59) [⟨#[95, 108, 97, 119, 95, 107, 105, 116, 95, 104, 101, 114, 101]⟩] := fun a fd F => F.binds fun _ _ _ _ _ _ us hl => match us, hl with | [_], _ => rfl
theorem k__law_refused_right : KwsOk K ⟨#[95, 108, 97, 119, 95, 114, 101, 102, 117, 115, 101, 100, 95, 114, 105, 103, 104, 116]⟩ (topS 59) [⟨#[95, 108, 97, 119, 95, 107, 105, 116, 95, 104, 101, 114, 101]⟩] (kt ⟨#[95, 108, 97, 119, 95, 114, 101, 102, 117, 115, 101, 100, 95, 114, 105, 103, 104, 116]⟩) := by
  have e0 : kt ⟨#[95, 108, 97, 119, 95, 114, 101, 102, 117, 115, 101, 100, 95, 114, 105, 103, 104, 116]⟩ = [] := by rfl
  rw [e0]
  intro a fd F
  intro e h
  cases h
theorem ok__law_refused_right (B : BaseK P w K mg) (D : Defs K mg) : CalOk P w K mg base kt 18 ⟨#[95, 108, 97, 119, 95, 114, 101, 102, 117, 115, 101, 100, 95, 114, 105, 103, 104, 116]⟩ 1 f__law_refused_right :=
  cal_of (c := c_law_refused_right f__law_refusal (f__law_same 14)) (k := 17) D.d59 s__law_refused_right v__law_refused_right (lib_of (kt := kt) (base := base) B (List.forall_mem_cons.mpr ⟨(ok__law_refusal B D).mono (by omega), List.forall_mem_cons.mpr ⟨(ok__law_same B D 14).mono (by omega), fun e h => by cases h⟩⟩) (fun e h => by cases h)) (r_law_refused_right f__law_refusal (f__law_same 14)) a__law_refused_right k__law_refused_right (by decide +kernel) rfl rfl
theorem s__law_soft_right : FnScope n_law_soft_right [⟨#[95, 108, 97, 119, 95, 107, 105, 116, 95, 104, 101, 114, 101]⟩] (defScope (topS 60)) := ⟨rfl, rfl, rfl, by decide +kernel, rfl, by decide +kernel, by decide +kernel⟩
theorem v__law_soft_right : ∀ y ∈ n_law_soft_right, (y == ("__debug__" : Str)) = false ∧ (y == ("__classdict__" : Str)) = false := by decide +kernel
theorem a__law_soft_right : BindOk K ⟨#[95, 108, 97, 119, 95, 115, 111, 102, 116, 95, 114, 105, 103, 104, 116]⟩ (topS 60) [⟨#[95, 108, 97, 119, 95, 107, 105, 116, 95, 104, 101, 114, 101]⟩] := fun a fd F => F.binds fun _ _ _ _ _ _ us hl => match us, hl with | [_], _ => rfl
theorem k__law_soft_right : KwsOk K ⟨#[95, 108, 97, 119, 95, 115, 111, 102, 116, 95, 114, 105, 103, 104, 116]⟩ (topS 60) [⟨#[95, 108, 97, 119, 95, 107, 105, 116, 95, 104, 101, 114, 101]⟩] (kt ⟨#[95, 108, 97, 119, 95, 115, 111, 102, 116, 95, 114, 105, 103, 104, 116]⟩) := by
  have e0 : kt ⟨#[95, 108, 97, 119, 95, 115, 111, 102, 116, 95, 114, 105, 103, 104, 116]⟩ = [] := by rfl
  rw [e0]
  intro a fd F
  intro e h
  cases h
theorem ok__law_soft_right (B : BaseK P w K mg) (D : Defs K mg) : CalOk P w K mg base kt 17 ⟨#[95, 108, 97, 119, 95, 115, 111, 102, 116, 95, 114, 105, 103, 104, 116]⟩ 1 f__law_soft_right :=
  cal_of (c := c_law_soft_right (f__law_lists 14) (f__law_same 14) f_renamed f_shifted f_tidied f_turned_saying f_with_saying f_with_wheel f_without_saying f_without_wheel) (k := 16) D.d60 s__law_soft_right v__law_soft_right (lib_of (kt := kt) (base := base) B (List.forall_mem_cons.mpr ⟨(ok__law_lists B D 14).mono (by omega), List.forall_mem_cons.mpr ⟨(ok__law_same B D 14).mono (by omega), List.forall_mem_cons.mpr ⟨(ok_renamed B D).mono (by omega), List.forall_mem_cons.mpr ⟨(ok_shifted B D).mono (by omega), List.forall_mem_cons.mpr ⟨(ok_tidied B D).mono (by omega), List.forall_mem_cons.mpr ⟨(ok_turned_saying B D).mono (by omega), List.forall_mem_cons.mpr ⟨(ok_with_saying B D).mono (by omega), List.forall_mem_cons.mpr ⟨(ok_with_wheel B D).mono (by omega), List.forall_mem_cons.mpr ⟨(ok_without_saying B D).mono (by omega), List.forall_mem_cons.mpr ⟨(ok_without_wheel B D).mono (by omega), fun e h => by cases h⟩⟩⟩⟩⟩⟩⟩⟩⟩⟩) (by decide +kernel)) (r_law_soft_right (f__law_lists 14) (f__law_same 14) f_renamed f_shifted f_tidied f_turned_saying f_with_saying f_with_wheel f_without_saying f_without_wheel) a__law_soft_right k__law_soft_right (by decide +kernel) rfl rfl
theorem s__law_changed_right : FnScope n_law_changed_right [] (defScope (topS 58)) := ⟨rfl, rfl, rfl, by decide +kernel, rfl, by decide +kernel, by decide +kernel⟩
theorem v__law_changed_right : ∀ y ∈ n_law_changed_right, (y == ("__debug__" : Str)) = false ∧ (y == ("__classdict__" : Str)) = false := by decide +kernel
theorem a__law_changed_right : BindOk K ⟨#[95, 108, 97, 119, 95, 99, 104, 97, 110, 103, 101, 100, 95, 114, 105, 103, 104, 116]⟩ (topS 58) [] := fun a fd F => F.binds fun _ _ _ _ _ _ us hl => match us, hl with | [], _ => rfl
theorem k__law_changed_right : KwsOk K ⟨#[95, 108, 97, 119, 95, 99, 104, 97, 110, 103, 101, 100, 95, 114, 105, 103, 104, 116]⟩ (topS 58) [] (kt ⟨#[95, 108, 97, 119, 95, 99, 104, 97, 110, 103, 101, 100, 95, 114, 105, 103, 104, 116]⟩) := by
  have e0 : kt ⟨#[95, 108, 97, 119, 95, 99, 104, 97, 110, 103, 101, 100, 95, 114, 105, 103, 104, 116]⟩ = [] := by rfl
  rw [e0]
  intro a fd F
  intro e h
  cases h
theorem ok__law_changed_right (B : BaseK P w K mg) (D : Defs K mg) : CalOk P w K mg base kt 19 ⟨#[95, 108, 97, 119, 95, 99, 104, 97, 110, 103, 101, 100, 95, 114, 105, 103, 104, 116]⟩ 0 f__law_changed_right :=
  cal_of (c := c_law_changed_right f__law_kit f__law_refused_right (f__law_same 14) f__law_soft_right f_renamed f_shifted f_tidied f_turned_saying f_with_saying f_with_wheel f_without_saying f_without_wheel) (k := 18) D.d58 s__law_changed_right v__law_changed_right (lib_of (kt := kt) (base := base) B (List.forall_mem_cons.mpr ⟨(ok__law_kit B D).mono (by omega), List.forall_mem_cons.mpr ⟨(ok__law_refused_right B D).mono (by omega), List.forall_mem_cons.mpr ⟨(ok__law_same B D 14).mono (by omega), List.forall_mem_cons.mpr ⟨(ok__law_soft_right B D).mono (by omega), List.forall_mem_cons.mpr ⟨(ok_renamed B D).mono (by omega), List.forall_mem_cons.mpr ⟨(ok_shifted B D).mono (by omega), List.forall_mem_cons.mpr ⟨(ok_tidied B D).mono (by omega), List.forall_mem_cons.mpr ⟨(ok_turned_saying B D).mono (by omega), List.forall_mem_cons.mpr ⟨(ok_with_saying B D).mono (by omega), List.forall_mem_cons.mpr ⟨(ok_with_wheel B D).mono (by omega), List.forall_mem_cons.mpr ⟨(ok_without_saying B D).mono (by omega), List.forall_mem_cons.mpr ⟨(ok_without_wheel B D).mono (by omega), fun e h => by cases h⟩⟩⟩⟩⟩⟩⟩⟩⟩⟩⟩⟩) (fun e h => by cases h)) (r_law_changed_right f__law_kit f__law_refused_right (f__law_same 14) f__law_soft_right f_renamed f_shifted f_tidied f_turned_saying f_with_saying f_with_wheel f_without_saying f_without_wheel) a__law_changed_right k__law_changed_right (by decide +kernel) rfl rfl
theorem s__law_off_right : FnScope n_law_off_right [⟨#[95, 108, 97, 119, 95, 107, 105, 116, 95, 104, 101, 114, 101]⟩, ⟨#[95, 108, 97, 119, 95, 102, 97, 114]⟩] (defScope (topS 56)) := ⟨rfl, rfl, rfl, by decide +kernel, rfl, by decide +kernel, by decide +kernel⟩
theorem v__law_off_right : ∀ y ∈ n_law_off_right, (y == ("__debug__" : Str)) = false ∧ (y == ("__classdict__" : Str)) = false := by decide +kernel
theorem a__law_off_right : BindOk K ⟨#[95, 108, 97, 119, 95, 111, 102, 102, 95, 114, 105, 103, 104, 116]⟩ (topS 56) [⟨#[95, 108, 97, 119, 95, 107, 105, 116, 95, 104, 101, 114, 101]⟩, ⟨#[95, 108, 97, 119, 95, 102, 97, 114]⟩] := fun a fd F => F.binds fun _ _ _ _ _ _ us hl => match us, hl with | [_, _], _ => rfl
theorem k__law_off_right : KwsOk K ⟨#[95, 108, 97, 119, 95, 111, 102, 102, 95, 114, 105, 103, 104, 116]⟩ (topS 56) [⟨#[95, 108, 97, 119, 95, 107, 105, 116, 95, 104, 101, 114, 101]⟩, ⟨#[95, 108, 97, 119, 95, 102, 97, 114]⟩] (kt ⟨#[95, 108, 97, 119, 95, 111, 102, 102, 95, 114, 105, 103, 104, 116]⟩) := by
  have e0 : kt ⟨#[95, 108, 97, 119, 95, 111, 102, 102, 95, 114, 105, 103, 104, 116]⟩ = [] := by rfl
  rw [e0]
  intro a fd F
  intro e h
  cases h
theorem ok__law_off_right (B : BaseK P w K mg) (D : Defs K mg) : CalOk P w K mg base kt 17 ⟨#[95, 108, 97, 119, 95, 111, 102, 102, 95, 114, 105, 103, 104, 116]⟩ 2 f__law_off_right :=
  cal_of (c := c_law_off_right f__law_half f__law_heard (f__law_lists 14) (f__law_same 14) f_off_by f_unkept) (k := 16) D.d56 s__law_off_right v__law_off_right (lib_of (kt := kt) (base := base) B (List.forall_mem_cons.mpr ⟨(ok__law_half B D).mono (by omega), List.forall_mem_cons.mpr ⟨(ok__law_heard B D).mono (by omega), List.forall_mem_cons.mpr ⟨(ok__law_lists B D 14).mono (by omega), List.forall_mem_cons.mpr ⟨(ok__law_same B D 14).mono (by omega), List.forall_mem_cons.mpr ⟨(ok_off_by B D).mono (by omega), List.forall_mem_cons.mpr ⟨(ok_unkept B D).mono (by omega), fun e h => by cases h⟩⟩⟩⟩⟩⟩) (by decide +kernel)) (r_law_off_right f__law_half f__law_heard (f__law_lists 14) (f__law_same 14) f_off_by f_unkept) a__law_off_right k__law_off_right (by decide +kernel) rfl rfl
theorem s__law_by_hand_right : FnScope n_law_by_hand_right [] (defScope (topS 54)) := ⟨rfl, rfl, rfl, by decide +kernel, rfl, by decide +kernel, by decide +kernel⟩
theorem v__law_by_hand_right : ∀ y ∈ n_law_by_hand_right, (y == ("__debug__" : Str)) = false ∧ (y == ("__classdict__" : Str)) = false := by decide +kernel
theorem a__law_by_hand_right : BindOk K ⟨#[95, 108, 97, 119, 95, 98, 121, 95, 104, 97, 110, 100, 95, 114, 105, 103, 104, 116]⟩ (topS 54) [] := fun a fd F => F.binds fun _ _ _ _ _ _ us hl => match us, hl with | [], _ => rfl
theorem k__law_by_hand_right : KwsOk K ⟨#[95, 108, 97, 119, 95, 98, 121, 95, 104, 97, 110, 100, 95, 114, 105, 103, 104, 116]⟩ (topS 54) [] (kt ⟨#[95, 108, 97, 119, 95, 98, 121, 95, 104, 97, 110, 100, 95, 114, 105, 103, 104, 116]⟩) := by
  have e0 : kt ⟨#[95, 108, 97, 119, 95, 98, 121, 95, 104, 97, 110, 100, 95, 114, 105, 103, 104, 116]⟩ = [] := by rfl
  rw [e0]
  intro a fd F
  intro e h
  cases h
theorem ok__law_by_hand_right (B : BaseK P w K mg) (D : Defs K mg) : CalOk P w K mg base kt 20 ⟨#[95, 108, 97, 119, 95, 98, 121, 95, 104, 97, 110, 100, 95, 114, 105, 103, 104, 116]⟩ 0 f__law_by_hand_right :=
  cal_of (c := c_law_by_hand_right f__law_begins_right f__law_changed_right f__law_kit f__law_off_right (f__law_same 14) f_is_mill) (k := 19) D.d54 s__law_by_hand_right v__law_by_hand_right (lib_of (kt := kt) (base := base) B (List.forall_mem_cons.mpr ⟨(ok__law_begins_right B D).mono (by omega), List.forall_mem_cons.mpr ⟨(ok__law_changed_right B D).mono (by omega), List.forall_mem_cons.mpr ⟨(ok__law_kit B D).mono (by omega), List.forall_mem_cons.mpr ⟨(ok__law_off_right B D).mono (by omega), List.forall_mem_cons.mpr ⟨(ok__law_same B D 14).mono (by omega), List.forall_mem_cons.mpr ⟨(ok_is_mill B D).mono (by omega), fun e h => by cases h⟩⟩⟩⟩⟩⟩) (fun e h => by cases h)) (r_law_by_hand_right f__law_begins_right f__law_changed_right f__law_kit f__law_off_right (f__law_same 14) f_is_mill) a__law_by_hand_right k__law_by_hand_right (by decide +kernel) rfl rfl
theorem s__law_right : FnScope n_law_right [⟨#[95, 108, 97, 119, 95, 116, 117, 98]⟩] (defScope (topS 61)) := ⟨rfl, rfl, rfl, by decide +kernel, rfl, by decide +kernel, by decide +kernel⟩
theorem v__law_right : ∀ y ∈ n_law_right, (y == ("__debug__" : Str)) = false ∧ (y == ("__classdict__" : Str)) = false := by decide +kernel
theorem a__law_right : BindOk K ⟨#[95, 108, 97, 119, 95, 114, 105, 103, 104, 116]⟩ (topS 61) [⟨#[95, 108, 97, 119, 95, 116, 117, 98]⟩] := fun a fd F => F.binds fun _ _ _ _ _ _ us hl => match us, hl with | [_], _ => rfl
theorem k__law_right : KwsOk K ⟨#[95, 108, 97, 119, 95, 114, 105, 103, 104, 116]⟩ (topS 61) [⟨#[95, 108, 97, 119, 95, 116, 117, 98]⟩] (kt ⟨#[95, 108, 97, 119, 95, 114, 105, 103, 104, 116]⟩) := by
  have e0 : kt ⟨#[95, 108, 97, 119, 95, 114, 105, 103, 104, 116]⟩ = [] := by rfl
  rw [e0]
  intro a fd F
  intro e h
  cases h
theorem ok__law_right (B : BaseK P w K mg) (D : Defs K mg) : CalOk P w K mg base kt 16 ⟨#[95, 108, 97, 119, 95, 114, 105, 103, 104, 116]⟩ 1 f__law_right :=
  cal_of (c := c_law_right f__law_begins f__law_kept f__law_pair (f__law_same 14) f__law_table f__law_take f_is_begins f_is_mill f_is_setting f_off_by f_unkept) (k := 15) D.d61 s__law_right v__law_right (lib_of (kt := kt) (base := base) B (List.forall_mem_cons.mpr ⟨(ok__law_begins B D).mono (by omega), List.forall_mem_cons.mpr ⟨(ok__law_kept B D).mono (by omega), List.forall_mem_cons.mpr ⟨(ok__law_pair B D).mono (by omega), List.forall_mem_cons.mpr ⟨(ok__law_same B D 14).mono (by omega), List.forall_mem_cons.mpr ⟨(ok__law_table B D).mono (by omega), List.forall_mem_cons.mpr ⟨(ok__law_take B D).mono (by omega), List.forall_mem_cons.mpr ⟨(ok_is_begins B D).mono (by omega), List.forall_mem_cons.mpr ⟨(ok_is_mill B D).mono (by omega), List.forall_mem_cons.mpr ⟨(ok_is_setting B D).mono (by omega), List.forall_mem_cons.mpr ⟨(ok_off_by B D).mono (by omega), List.forall_mem_cons.mpr ⟨(ok_unkept B D).mono (by omega), fun e h => by cases h⟩⟩⟩⟩⟩⟩⟩⟩⟩⟩⟩) (fun e h => by cases h)) (r_law_right f__law_begins f__law_kept f__law_pair (f__law_same 14) f__law_table f__law_take f_is_begins f_is_mill f_is_setting f_off_by f_unkept) a__law_right k__law_right (by decide +kernel) rfl rfl
theorem s_law : FnScope nlaw [⟨#[95, 108, 97, 119, 95, 115, 99, 114, 105, 112, 116]⟩] (defScope (topS 62)) := ⟨rfl, rfl, rfl, by decide +kernel, rfl, by decide +kernel, by decide +kernel⟩
theorem v_law : ∀ y ∈ nlaw, (y == ("__debug__" : Str)) = false ∧ (y == ("__classdict__" : Str)) = false := by decide +kernel
theorem a_law : BindOk K ⟨#[108, 97, 119]⟩ (topS 62) [⟨#[95, 108, 97, 119, 95, 115, 99, 114, 105, 112, 116]⟩] := fun a fd F => F.binds fun _ _ _ _ _ _ us hl => match us, hl with | [_], _ => rfl
theorem k_law : KwsOk K ⟨#[108, 97, 119]⟩ (topS 62) [⟨#[95, 108, 97, 119, 95, 115, 99, 114, 105, 112, 116]⟩] (kt ⟨#[108, 97, 119]⟩) := by
  have e0 : kt ⟨#[108, 97, 119]⟩ = [] := by rfl
  rw [e0]
  intro a fd F
  intro e h
  cases h
theorem ok_law (B : BaseK P w K mg) (D : Defs K mg) : CalOk P w K mg base kt 21 ⟨#[108, 97, 119]⟩ 1 f_law :=
  cal_of (c := claw f__law_box f__law_by_hand_right f__law_cells f__law_right) (k := 20) D.d62 s_law v_law (lib_of (kt := kt) (base := base) B (List.forall_mem_cons.mpr ⟨(ok__law_box B D).mono (by omega), List.forall_mem_cons.mpr ⟨(ok__law_by_hand_right B D).mono (by omega), List.forall_mem_cons.mpr ⟨(ok__law_cells B D).mono (by omega), List.forall_mem_cons.mpr ⟨(ok__law_right B D).mono (by omega), fun e h => by cases h⟩⟩⟩⟩) (fun e h => by cases h)) (rlaw f__law_box f__law_by_hand_right f__law_cells f__law_right) a_law k_law (by decide +kernel) rfl rfl
end
end K00
set_option Elab.async false
set_option linter.all false
set_option maxRecDepth 100000
set_option maxHeartbeats 4000000
namespace K00
open PySem PySem.Spec PyProof.Rows L2 Dp PySem.HandSPX
theorem facts {P : Program} {w : World} {K : PySem.W.Frag} {h : Heap} {mg : Str → Option Value} (X : K.In h) (G : h.Ns mainGlobals mg)
    {f8 : Addr} {od8 an8 : Option Addr} {sl8 : Array (Option Value)} {oc8 kV8 dc8 pm8 cd8 ct8 : Value}
    (a8 : PySem.W.nsIn K mainGlobals "tupled" = some (some (.ref f8)))
    (l8 : K.lookup f8 = some ⟨oc8, od8, .func (PySem.W.fnOf "tupled" "tupled" (defArgs (topS 8)) (defBody (topS 8)) (defScope (topS 8)) .none kV8 dc8 pm8 an8 cd8 ct8), sl8⟩)
    (c8 : PySem.W.codeIn K cd8 "tupled" = true)
    (k8 : PySem.W.keepIn K (.ref f8) = true)
    {f9 : Addr} {od9 an9 : Option Addr} {sl9 : Array (Option Value)} {oc9 kV9 dc9 pm9 cd9 ct9 : Value}
    (a9 : PySem.W.nsIn K mainGlobals "is_number" = some (some (.ref f9)))
    (l9 : K.lookup f9 = some ⟨oc9, od9, .func (PySem.W.fnOf "is_number" "is_number" (defArgs (topS 9)) (defBody (topS 9)) (defScope (topS 9)) .none kV9 dc9 pm9 an9 cd9 ct9), sl9⟩)
    (c9 : PySem.W.codeIn K cd9 "is_number" = true)
    (k9 : PySem.W.keepIn K (.ref f9) = true)
    {f10 : Addr} {od10 an10 : Option Addr} {sl10 : Array (Option Value)} {oc10 kV10 dc10 pm10 cd10 ct10 : Value}
    (a10 : PySem.W.nsIn K mainGlobals "is_name" = some (some (.ref f10)))
    (l10 : K.lookup f10 = some ⟨oc10, od10, .func (PySem.W.fnOf "is_name" "is_name" (defArgs (topS 10)) (defBody (topS 10)) (defScope (topS 10)) .none kV10 dc10 pm10 an10 cd10 ct10), sl10⟩)
    (c10 : PySem.W.codeIn K cd10 "is_name" = true)
    (k10 : PySem.W.keepIn K (.ref f10) = true)
    {f11 : Addr} {od11 an11 : Option Addr} {sl11 : Array (Option Value)} {oc11 kV11 dc11 pm11 cd11 ct11 : Value}
    (a11 : PySem.W.nsIn K mainGlobals "is_row" = some (some (.ref f11)))
    (l11 : K.lookup f11 = some ⟨oc11, od11, .func (PySem.W.fnOf "is_row" "is_row" (defArgs (topS 11)) (defBody (topS 11)) (defScope (topS 11)) .none kV11 dc11 pm11 an11 cd11 ct11), sl11⟩)
    (c11 : PySem.W.codeIn K cd11 "is_row" = true)
    (k11 : PySem.W.keepIn K (.ref f11) = true)
    {f12 : Addr} {od12 an12 : Option Addr} {sl12 : Array (Option Value)} {oc12 kV12 dc12 pm12 cd12 ct12 : Value}
    (a12 : PySem.W.nsIn K mainGlobals "ascends" = some (some (.ref f12)))
    (l12 : K.lookup f12 = some ⟨oc12, od12, .func (PySem.W.fnOf "ascends" "ascends" (defArgs (topS 12)) (defBody (topS 12)) (defScope (topS 12)) .none kV12 dc12 pm12 an12 cd12 ct12), sl12⟩)
    (c12 : PySem.W.codeIn K cd12 "ascends" = true)
    (k12 : PySem.W.keepIn K (.ref f12) = true)
    {f13 : Addr} {od13 an13 : Option Addr} {sl13 : Array (Option Value)} {oc13 kV13 dc13 pm13 cd13 ct13 : Value}
    (a13 : PySem.W.nsIn K mainGlobals "wheel_names" = some (some (.ref f13)))
    (l13 : K.lookup f13 = some ⟨oc13, od13, .func (PySem.W.fnOf "wheel_names" "wheel_names" (defArgs (topS 13)) (defBody (topS 13)) (defScope (topS 13)) .none kV13 dc13 pm13 an13 cd13 ct13), sl13⟩)
    (c13 : PySem.W.codeIn K cd13 "wheel_names" = true)
    (k13 : PySem.W.keepIn K (.ref f13) = true)
    {f14 : Addr} {od14 an14 : Option Addr} {sl14 : Array (Option Value)} {oc14 kV14 dc14 pm14 cd14 ct14 : Value}
    (a14 : PySem.W.nsIn K mainGlobals "end_names" = some (some (.ref f14)))
    (l14 : K.lookup f14 = some ⟨oc14, od14, .func (PySem.W.fnOf "end_names" "end_names" (defArgs (topS 14)) (defBody (topS 14)) (defScope (topS 14)) .none kV14 dc14 pm14 an14 cd14 ct14), sl14⟩)
    (c14 : PySem.W.codeIn K cd14 "end_names" = true)
    (k14 : PySem.W.keepIn K (.ref f14) = true)
    {f15 : Addr} {od15 an15 : Option Addr} {sl15 : Array (Option Value)} {oc15 kV15 dc15 pm15 cd15 ct15 : Value}
    (a15 : PySem.W.nsIn K mainGlobals "saying_names" = some (some (.ref f15)))
    (l15 : K.lookup f15 = some ⟨oc15, od15, .func (PySem.W.fnOf "saying_names" "saying_names" (defArgs (topS 15)) (defBody (topS 15)) (defScope (topS 15)) .none kV15 dc15 pm15 an15 cd15 ct15), sl15⟩)
    (c15 : PySem.W.codeIn K cd15 "saying_names" = true)
    (k15 : PySem.W.keepIn K (.ref f15) = true)
    {f16 : Addr} {od16 an16 : Option Addr} {sl16 : Array (Option Value)} {oc16 kV16 dc16 pm16 cd16 ct16 : Value}
    (a16 : PySem.W.nsIn K mainGlobals "need_wheel" = some (some (.ref f16)))
    (l16 : K.lookup f16 = some ⟨oc16, od16, .func (PySem.W.fnOf "need_wheel" "need_wheel" (defArgs (topS 16)) (defBody (topS 16)) (defScope (topS 16)) .none kV16 dc16 pm16 an16 cd16 ct16), sl16⟩)
    (c16 : PySem.W.codeIn K cd16 "need_wheel" = true)
    (k16 : PySem.W.keepIn K (.ref f16) = true)
    {f17 : Addr} {od17 an17 : Option Addr} {sl17 : Array (Option Value)} {oc17 kV17 dc17 pm17 cd17 ct17 : Value}
    (a17 : PySem.W.nsIn K mainGlobals "need_end" = some (some (.ref f17)))
    (l17 : K.lookup f17 = some ⟨oc17, od17, .func (PySem.W.fnOf "need_end" "need_end" (defArgs (topS 17)) (defBody (topS 17)) (defScope (topS 17)) .none kV17 dc17 pm17 an17 cd17 ct17), sl17⟩)
    (c17 : PySem.W.codeIn K cd17 "need_end" = true)
    (k17 : PySem.W.keepIn K (.ref f17) = true)
    {f18 : Addr} {od18 an18 : Option Addr} {sl18 : Array (Option Value)} {oc18 kV18 dc18 pm18 cd18 ct18 : Value}
    (a18 : PySem.W.nsIn K mainGlobals "saying_called" = some (some (.ref f18)))
    (l18 : K.lookup f18 = some ⟨oc18, od18, .func (PySem.W.fnOf "saying_called" "saying_called" (defArgs (topS 18)) (defBody (topS 18)) (defScope (topS 18)) .none kV18 dc18 pm18 an18 cd18 ct18), sl18⟩)
    (c18 : PySem.W.codeIn K cd18 "saying_called" = true)
    (k18 : PySem.W.keepIn K (.ref f18) = true)
    {f20 : Addr} {od20 an20 : Option Addr} {sl20 : Array (Option Value)} {oc20 kV20 dc20 pm20 cd20 ct20 : Value}
    (a20 : PySem.W.nsIn K mainGlobals "is_wheel" = some (some (.ref f20)))
    (l20 : K.lookup f20 = some ⟨oc20, od20, .func (PySem.W.fnOf "is_wheel" "is_wheel" (defArgs (topS 20)) (defBody (topS 20)) (defScope (topS 20)) .none kV20 dc20 pm20 an20 cd20 ct20), sl20⟩)
    (c20 : PySem.W.codeIn K cd20 "is_wheel" = true)
    (k20 : PySem.W.keepIn K (.ref f20) = true)
    {f21 : Addr} {od21 an21 : Option Addr} {sl21 : Array (Option Value)} {oc21 kV21 dc21 pm21 cd21 ct21 : Value}
    (a21 : PySem.W.nsIn K mainGlobals "is_saying" = some (some (.ref f21)))
    (l21 : K.lookup f21 = some ⟨oc21, od21, .func (PySem.W.fnOf "is_saying" "is_saying" (defArgs (topS 21)) (defBody (topS 21)) (defScope (topS 21)) .none kV21 dc21 pm21 an21 cd21 ct21), sl21⟩)
    (c21 : PySem.W.codeIn K cd21 "is_saying" = true)
    (k21 : PySem.W.keepIn K (.ref f21) = true)
    {f22 : Addr} {od22 an22 : Option Addr} {sl22 : Array (Option Value)} {oc22 kV22 dc22 pm22 cd22 ct22 : Value}
    (a22 : PySem.W.nsIn K mainGlobals "is_mill" = some (some (.ref f22)))
    (l22 : K.lookup f22 = some ⟨oc22, od22, .func (PySem.W.fnOf "is_mill" "is_mill" (defArgs (topS 22)) (defBody (topS 22)) (defScope (topS 22)) .none kV22 dc22 pm22 an22 cd22 ct22), sl22⟩)
    (c22 : PySem.W.codeIn K cd22 "is_mill" = true)
    (k22 : PySem.W.keepIn K (.ref f22) = true)
    {f23 : Addr} {od23 an23 : Option Addr} {sl23 : Array (Option Value)} {oc23 kV23 dc23 pm23 cd23 ct23 : Value}
    (a23 : PySem.W.nsIn K mainGlobals "is_begins" = some (some (.ref f23)))
    (l23 : K.lookup f23 = some ⟨oc23, od23, .func (PySem.W.fnOf "is_begins" "is_begins" (defArgs (topS 23)) (defBody (topS 23)) (defScope (topS 23)) .none kV23 dc23 pm23 an23 cd23 ct23), sl23⟩)
    (c23 : PySem.W.codeIn K cd23 "is_begins" = true)
    (k23 : PySem.W.keepIn K (.ref f23) = true)
    {f24 : Addr} {od24 an24 : Option Addr} {sl24 : Array (Option Value)} {oc24 kV24 dc24 pm24 cd24 ct24 : Value}
    (a24 : PySem.W.nsIn K mainGlobals "is_setting" = some (some (.ref f24)))
    (l24 : K.lookup f24 = some ⟨oc24, od24, .func (PySem.W.fnOf "is_setting" "is_setting" (defArgs (topS 24)) (defBody (topS 24)) (defScope (topS 24)) .none kV24 dc24 pm24 an24 cd24 ct24), sl24⟩)
    (c24 : PySem.W.codeIn K cd24 "is_setting" = true)
    (k24 : PySem.W.keepIn K (.ref f24) = true)
    {f25 : Addr} {od25 an25 : Option Addr} {sl25 : Array (Option Value)} {oc25 kV25 dc25 pm25 cd25 ct25 : Value}
    (a25 : PySem.W.nsIn K mainGlobals "begin_table" = some (some (.ref f25)))
    (l25 : K.lookup f25 = some ⟨oc25, od25, .func (PySem.W.fnOf "begin_table" "begin_table" (defArgs (topS 25)) (defBody (topS 25)) (defScope (topS 25)) .none kV25 dc25 pm25 an25 cd25 ct25), sl25⟩)
    (c25 : PySem.W.codeIn K cd25 "begin_table" = true)
    (k25 : PySem.W.keepIn K (.ref f25) = true)
    {f26 : Addr} {od26 an26 : Option Addr} {sl26 : Array (Option Value)} {oc26 kV26 dc26 pm26 cd26 ct26 : Value}
    (a26 : PySem.W.nsIn K mainGlobals "how_far_off" = some (some (.ref f26)))
    (l26 : K.lookup f26 = some ⟨oc26, od26, .func (PySem.W.fnOf "how_far_off" "how_far_off" (defArgs (topS 26)) (defBody (topS 26)) (defScope (topS 26)) .none kV26 dc26 pm26 an26 cd26 ct26), sl26⟩)
    (c26 : PySem.W.codeIn K cd26 "how_far_off" = true)
    (k26 : PySem.W.keepIn K (.ref f26) = true)
    {f27 : Addr} {od27 an27 : Option Addr} {sl27 : Array (Option Value)} {oc27 kV27 dc27 pm27 cd27 ct27 : Value}
    (a27 : PySem.W.nsIn K mainGlobals "off_by" = some (some (.ref f27)))
    (l27 : K.lookup f27 = some ⟨oc27, od27, .func (PySem.W.fnOf "off_by" "off_by" (defArgs (topS 27)) (defBody (topS 27)) (defScope (topS 27)) .none kV27 dc27 pm27 an27 cd27 ct27), sl27⟩)
    (c27 : PySem.W.codeIn K cd27 "off_by" = true)
    (k27 : PySem.W.keepIn K (.ref f27) = true)
    {f28 : Addr} {od28 an28 : Option Addr} {sl28 : Array (Option Value)} {oc28 kV28 dc28 pm28 cd28 ct28 : Value}
    (a28 : PySem.W.nsIn K mainGlobals "unkept" = some (some (.ref f28)))
    (l28 : K.lookup f28 = some ⟨oc28, od28, .func (PySem.W.fnOf "unkept" "unkept" (defArgs (topS 28)) (defBody (topS 28)) (defScope (topS 28)) .none kV28 dc28 pm28 an28 cd28 ct28), sl28⟩)
    (c28 : PySem.W.codeIn K cd28 "unkept" = true)
    (k28 : PySem.W.keepIn K (.ref f28) = true)
    {f29 : Addr} {od29 an29 : Option Addr} {sl29 : Array (Option Value)} {oc29 kV29 dc29 pm29 cd29 ct29 : Value}
    (a29 : PySem.W.nsIn K mainGlobals "with_wheel" = some (some (.ref f29)))
    (l29 : K.lookup f29 = some ⟨oc29, od29, .func (PySem.W.fnOf "with_wheel" "with_wheel" (defArgs (topS 29)) (defBody (topS 29)) (defScope (topS 29)) .none kV29 dc29 pm29 an29 cd29 ct29), sl29⟩)
    (c29 : PySem.W.codeIn K cd29 "with_wheel" = true)
    (k29 : PySem.W.keepIn K (.ref f29) = true)
    {f30 : Addr} {od30 an30 : Option Addr} {sl30 : Array (Option Value)} {oc30 kV30 dc30 pm30 cd30 ct30 : Value}
    (a30 : PySem.W.nsIn K mainGlobals "without_wheel" = some (some (.ref f30)))
    (l30 : K.lookup f30 = some ⟨oc30, od30, .func (PySem.W.fnOf "without_wheel" "without_wheel" (defArgs (topS 30)) (defBody (topS 30)) (defScope (topS 30)) .none kV30 dc30 pm30 an30 cd30 ct30), sl30⟩)
    (c30 : PySem.W.codeIn K cd30 "without_wheel" = true)
    (k30 : PySem.W.keepIn K (.ref f30) = true)
    {f31 : Addr} {od31 an31 : Option Addr} {sl31 : Array (Option Value)} {oc31 kV31 dc31 pm31 cd31 ct31 : Value}
    (a31 : PySem.W.nsIn K mainGlobals "with_saying" = some (some (.ref f31)))
    (l31 : K.lookup f31 = some ⟨oc31, od31, .func (PySem.W.fnOf "with_saying" "with_saying" (defArgs (topS 31)) (defBody (topS 31)) (defScope (topS 31)) .none kV31 dc31 pm31 an31 cd31 ct31), sl31⟩)
    (c31 : PySem.W.codeIn K cd31 "with_saying" = true)
    (k31 : PySem.W.keepIn K (.ref f31) = true)
    {f32 : Addr} {od32 an32 : Option Addr} {sl32 : Array (Option Value)} {oc32 kV32 dc32 pm32 cd32 ct32 : Value}
    (a32 : PySem.W.nsIn K mainGlobals "without_saying" = some (some (.ref f32)))
    (l32 : K.lookup f32 = some ⟨oc32, od32, .func (PySem.W.fnOf "without_saying" "without_saying" (defArgs (topS 32)) (defBody (topS 32)) (defScope (topS 32)) .none kV32 dc32 pm32 an32 cd32 ct32), sl32⟩)
    (c32 : PySem.W.codeIn K cd32 "without_saying" = true)
    (k32 : PySem.W.keepIn K (.ref f32) = true)
    {f33 : Addr} {od33 an33 : Option Addr} {sl33 : Array (Option Value)} {oc33 kV33 dc33 pm33 cd33 ct33 : Value}
    (a33 : PySem.W.nsIn K mainGlobals "turned_saying" = some (some (.ref f33)))
    (l33 : K.lookup f33 = some ⟨oc33, od33, .func (PySem.W.fnOf "turned_saying" "turned_saying" (defArgs (topS 33)) (defBody (topS 33)) (defScope (topS 33)) .none kV33 dc33 pm33 an33 cd33 ct33), sl33⟩)
    (c33 : PySem.W.codeIn K cd33 "turned_saying" = true)
    (k33 : PySem.W.keepIn K (.ref f33) = true)
    {f34 : Addr} {od34 an34 : Option Addr} {sl34 : Array (Option Value)} {oc34 kV34 dc34 pm34 cd34 ct34 : Value}
    (a34 : PySem.W.nsIn K mainGlobals "tidy_saying" = some (some (.ref f34)))
    (l34 : K.lookup f34 = some ⟨oc34, od34, .func (PySem.W.fnOf "tidy_saying" "tidy_saying" (defArgs (topS 34)) (defBody (topS 34)) (defScope (topS 34)) .none kV34 dc34 pm34 an34 cd34 ct34), sl34⟩)
    (c34 : PySem.W.codeIn K cd34 "tidy_saying" = true)
    (k34 : PySem.W.keepIn K (.ref f34) = true)
    {f35 : Addr} {od35 an35 : Option Addr} {sl35 : Array (Option Value)} {oc35 kV35 dc35 pm35 cd35 ct35 : Value}
    (a35 : PySem.W.nsIn K mainGlobals "tidied" = some (some (.ref f35)))
    (l35 : K.lookup f35 = some ⟨oc35, od35, .func (PySem.W.fnOf "tidied" "tidied" (defArgs (topS 35)) (defBody (topS 35)) (defScope (topS 35)) .none kV35 dc35 pm35 an35 cd35 ct35), sl35⟩)
    (c35 : PySem.W.codeIn K cd35 "tidied" = true)
    (k35 : PySem.W.keepIn K (.ref f35) = true)
    {f36 : Addr} {od36 an36 : Option Addr} {sl36 : Array (Option Value)} {oc36 kV36 dc36 pm36 cd36 ct36 : Value}
    (a36 : PySem.W.nsIn K mainGlobals "shifted_saying" = some (some (.ref f36)))
    (l36 : K.lookup f36 = some ⟨oc36, od36, .func (PySem.W.fnOf "shifted_saying" "shifted_saying" (defArgs (topS 36)) (defBody (topS 36)) (defScope (topS 36)) .none kV36 dc36 pm36 an36 cd36 ct36), sl36⟩)
    (c36 : PySem.W.codeIn K cd36 "shifted_saying" = true)
    (k36 : PySem.W.keepIn K (.ref f36) = true)
    {f37 : Addr} {od37 an37 : Option Addr} {sl37 : Array (Option Value)} {oc37 kV37 dc37 pm37 cd37 ct37 : Value}
    (a37 : PySem.W.nsIn K mainGlobals "shifted" = some (some (.ref f37)))
    (l37 : K.lookup f37 = some ⟨oc37, od37, .func (PySem.W.fnOf "shifted" "shifted" (defArgs (topS 37)) (defBody (topS 37)) (defScope (topS 37)) .none kV37 dc37 pm37 an37 cd37 ct37), sl37⟩)
    (c37 : PySem.W.codeIn K cd37 "shifted" = true)
    (k37 : PySem.W.keepIn K (.ref f37) = true)
    {f38 : Addr} {od38 an38 : Option Addr} {sl38 : Array (Option Value)} {oc38 kV38 dc38 pm38 cd38 ct38 : Value}
    (a38 : PySem.W.nsIn K mainGlobals "renamed" = some (some (.ref f38)))
    (l38 : K.lookup f38 = some ⟨oc38, od38, .func (PySem.W.fnOf "renamed" "renamed" (defArgs (topS 38)) (defBody (topS 38)) (defScope (topS 38)) .none kV38 dc38 pm38 an38 cd38 ct38), sl38⟩)
    (c38 : PySem.W.codeIn K cd38 "renamed" = true)
    (k38 : PySem.W.keepIn K (.ref f38) = true)
    {f40 : Addr} {od40 an40 : Option Addr} {sl40 : Array (Option Value)} {oc40 kV40 dc40 pm40 cd40 ct40 : Value}
    (a40 : PySem.W.nsIn K mainGlobals "_law_box" = some (some (.ref f40)))
    (l40 : K.lookup f40 = some ⟨oc40, od40, .func (PySem.W.fnOf "_law_box" "_law_box" (defArgs (topS 40)) (defBody (topS 40)) (defScope (topS 40)) .none kV40 dc40 pm40 an40 cd40 ct40), sl40⟩)
    (c40 : PySem.W.codeIn K cd40 "_law_box" = true)
    (k40 : PySem.W.keepIn K (.ref f40) = true)
    {f41 : Addr} {od41 an41 : Option Addr} {sl41 : Array (Option Value)} {oc41 kV41 dc41 pm41 cd41 ct41 : Value}
    (a41 : PySem.W.nsIn K mainGlobals "_law_take" = some (some (.ref f41)))
    (l41 : K.lookup f41 = some ⟨oc41, od41, .func (PySem.W.fnOf "_law_take" "_law_take" (defArgs (topS 41)) (defBody (topS 41)) (defScope (topS 41)) .none kV41 dc41 pm41 an41 cd41 ct41), sl41⟩)
    (c41 : PySem.W.codeIn K cd41 "_law_take" = true)
    (k41 : PySem.W.keepIn K (.ref f41) = true)
    {f42 : Addr} {od42 an42 : Option Addr} {sl42 : Array (Option Value)} {oc42 kV42 dc42 pm42 cd42 ct42 : Value}
    (a42 : PySem.W.nsIn K mainGlobals "_law_cells" = some (some (.ref f42)))
    (l42 : K.lookup f42 = some ⟨oc42, od42, .func (PySem.W.fnOf "_law_cells" "_law_cells" (defArgs (topS 42)) (defBody (topS 42)) (defScope (topS 42)) .none kV42 dc42 pm42 an42 cd42 ct42), sl42⟩)
    (c42 : PySem.W.codeIn K cd42 "_law_cells" = true)
    (k42 : PySem.W.keepIn K (.ref f42) = true)
    {f43 : Addr} {od43 an43 : Option Addr} {sl43 : Array (Option Value)} {oc43 kV43 dc43 pm43 cd43 ct43 : Value}
    (a43 : PySem.W.nsIn K mainGlobals "_law_pick" = some (some (.ref f43)))
    (l43 : K.lookup f43 = some ⟨oc43, od43, .func (PySem.W.fnOf "_law_pick" "_law_pick" (defArgs (topS 43)) (defBody (topS 43)) (defScope (topS 43)) .none kV43 dc43 pm43 an43 cd43 ct43), sl43⟩)
    (c43 : PySem.W.codeIn K cd43 "_law_pick" = true)
    (k43 : PySem.W.keepIn K (.ref f43) = true)
    {f44 : Addr} {od44 an44 : Option Addr} {sl44 : Array (Option Value)} {oc44 kV44 dc44 pm44 cd44 ct44 : Value}
    (a44 : PySem.W.nsIn K mainGlobals "_law_same" = some (some (.ref f44)))
    (l44 : K.lookup f44 = some ⟨oc44, od44, .func (PySem.W.fnOf "_law_same" "_law_same" (defArgs (topS 44)) (defBody (topS 44)) (defScope (topS 44)) .none kV44 dc44 pm44 an44 cd44 ct44), sl44⟩)
    (c44 : PySem.W.codeIn K cd44 "_law_same" = true)
    (k44 : PySem.W.keepIn K (.ref f44) = true)
    {f45 : Addr} {od45 an45 : Option Addr} {sl45 : Array (Option Value)} {oc45 kV45 dc45 pm45 cd45 ct45 : Value}
    (a45 : PySem.W.nsIn K mainGlobals "_law_lists" = some (some (.ref f45)))
    (l45 : K.lookup f45 = some ⟨oc45, od45, .func (PySem.W.fnOf "_law_lists" "_law_lists" (defArgs (topS 45)) (defBody (topS 45)) (defScope (topS 45)) .none kV45 dc45 pm45 an45 cd45 ct45), sl45⟩)
    (c45 : PySem.W.codeIn K cd45 "_law_lists" = true)
    (k45 : PySem.W.keepIn K (.ref f45) = true)
    {f46 : Addr} {od46 an46 : Option Addr} {sl46 : Array (Option Value)} {oc46 kV46 dc46 pm46 cd46 ct46 : Value}
    (a46 : PySem.W.nsIn K mainGlobals "_law_half" = some (some (.ref f46)))
    (l46 : K.lookup f46 = some ⟨oc46, od46, .func (PySem.W.fnOf "_law_half" "_law_half" (defArgs (topS 46)) (defBody (topS 46)) (defScope (topS 46)) .none kV46 dc46 pm46 an46 cd46 ct46), sl46⟩)
    (c46 : PySem.W.codeIn K cd46 "_law_half" = true)
    (k46 : PySem.W.keepIn K (.ref f46) = true)
    {f47 : Addr} {od47 an47 : Option Addr} {sl47 : Array (Option Value)} {oc47 kV47 dc47 pm47 cd47 ct47 : Value}
    (a47 : PySem.W.nsIn K mainGlobals "_law_wheels" = some (some (.ref f47)))
    (l47 : K.lookup f47 = some ⟨oc47, od47, .func (PySem.W.fnOf "_law_wheels" "_law_wheels" (defArgs (topS 47)) (defBody (topS 47)) (defScope (topS 47)) .none kV47 dc47 pm47 an47 cd47 ct47), sl47⟩)
    (c47 : PySem.W.codeIn K cd47 "_law_wheels" = true)
    (k47 : PySem.W.keepIn K (.ref f47) = true)
    {f48 : Addr} {od48 an48 : Option Addr} {sl48 : Array (Option Value)} {oc48 kV48 dc48 pm48 cd48 ct48 : Value}
    (a48 : PySem.W.nsIn K mainGlobals "_law_kept" = some (some (.ref f48)))
    (l48 : K.lookup f48 = some ⟨oc48, od48, .func (PySem.W.fnOf "_law_kept" "_law_kept" (defArgs (topS 48)) (defBody (topS 48)) (defScope (topS 48)) .none kV48 dc48 pm48 an48 cd48 ct48), sl48⟩)
    (c48 : PySem.W.codeIn K cd48 "_law_kept" = true)
    (k48 : PySem.W.keepIn K (.ref f48) = true)
    {f49 : Addr} {od49 an49 : Option Addr} {sl49 : Array (Option Value)} {oc49 kV49 dc49 pm49 cd49 ct49 : Value}
    (a49 : PySem.W.nsIn K mainGlobals "_law_begins" = some (some (.ref f49)))
    (l49 : K.lookup f49 = some ⟨oc49, od49, .func (PySem.W.fnOf "_law_begins" "_law_begins" (defArgs (topS 49)) (defBody (topS 49)) (defScope (topS 49)) .none kV49 dc49 pm49 an49 cd49 ct49), sl49⟩)
    (c49 : PySem.W.codeIn K cd49 "_law_begins" = true)
    (k49 : PySem.W.keepIn K (.ref f49) = true)
    {f50 : Addr} {od50 an50 : Option Addr} {sl50 : Array (Option Value)} {oc50 kV50 dc50 pm50 cd50 ct50 : Value}
    (a50 : PySem.W.nsIn K mainGlobals "_law_table" = some (some (.ref f50)))
    (l50 : K.lookup f50 = some ⟨oc50, od50, .func (PySem.W.fnOf "_law_table" "_law_table" (defArgs (topS 50)) (defBody (topS 50)) (defScope (topS 50)) .none kV50 dc50 pm50 an50 cd50 ct50), sl50⟩)
    (c50 : PySem.W.codeIn K cd50 "_law_table" = true)
    (k50 : PySem.W.keepIn K (.ref f50) = true)
    {f51 : Addr} {od51 an51 : Option Addr} {sl51 : Array (Option Value)} {oc51 kV51 dc51 pm51 cd51 ct51 : Value}
    (a51 : PySem.W.nsIn K mainGlobals "_law_kit" = some (some (.ref f51)))
    (l51 : K.lookup f51 = some ⟨oc51, od51, .func (PySem.W.fnOf "_law_kit" "_law_kit" (defArgs (topS 51)) (defBody (topS 51)) (defScope (topS 51)) .none kV51 dc51 pm51 an51 cd51 ct51), sl51⟩)
    (c51 : PySem.W.codeIn K cd51 "_law_kit" = true)
    (k51 : PySem.W.keepIn K (.ref f51) = true)
    {f52 : Addr} {od52 an52 : Option Addr} {sl52 : Array (Option Value)} {oc52 kV52 dc52 pm52 cd52 ct52 : Value}
    (a52 : PySem.W.nsIn K mainGlobals "_law_pair" = some (some (.ref f52)))
    (l52 : K.lookup f52 = some ⟨oc52, od52, .func (PySem.W.fnOf "_law_pair" "_law_pair" (defArgs (topS 52)) (defBody (topS 52)) (defScope (topS 52)) .none kV52 dc52 pm52 an52 cd52 ct52), sl52⟩)
    (c52 : PySem.W.codeIn K cd52 "_law_pair" = true)
    (k52 : PySem.W.keepIn K (.ref f52) = true)
    {f53 : Addr} {od53 an53 : Option Addr} {sl53 : Array (Option Value)} {oc53 kV53 dc53 pm53 cd53 ct53 : Value}
    (a53 : PySem.W.nsIn K mainGlobals "_law_heard" = some (some (.ref f53)))
    (l53 : K.lookup f53 = some ⟨oc53, od53, .func (PySem.W.fnOf "_law_heard" "_law_heard" (defArgs (topS 53)) (defBody (topS 53)) (defScope (topS 53)) .none kV53 dc53 pm53 an53 cd53 ct53), sl53⟩)
    (c53 : PySem.W.codeIn K cd53 "_law_heard" = true)
    (k53 : PySem.W.keepIn K (.ref f53) = true)
    {f54 : Addr} {od54 an54 : Option Addr} {sl54 : Array (Option Value)} {oc54 kV54 dc54 pm54 cd54 ct54 : Value}
    (a54 : PySem.W.nsIn K mainGlobals "_law_by_hand_right" = some (some (.ref f54)))
    (l54 : K.lookup f54 = some ⟨oc54, od54, .func (PySem.W.fnOf "_law_by_hand_right" "_law_by_hand_right" (defArgs (topS 54)) (defBody (topS 54)) (defScope (topS 54)) .none kV54 dc54 pm54 an54 cd54 ct54), sl54⟩)
    (c54 : PySem.W.codeIn K cd54 "_law_by_hand_right" = true)
    (k54 : PySem.W.keepIn K (.ref f54) = true)
    {f55 : Addr} {od55 an55 : Option Addr} {sl55 : Array (Option Value)} {oc55 kV55 dc55 pm55 cd55 ct55 : Value}
    (a55 : PySem.W.nsIn K mainGlobals "_law_begins_right" = some (some (.ref f55)))
    (l55 : K.lookup f55 = some ⟨oc55, od55, .func (PySem.W.fnOf "_law_begins_right" "_law_begins_right" (defArgs (topS 55)) (defBody (topS 55)) (defScope (topS 55)) .none kV55 dc55 pm55 an55 cd55 ct55), sl55⟩)
    (c55 : PySem.W.codeIn K cd55 "_law_begins_right" = true)
    (k55 : PySem.W.keepIn K (.ref f55) = true)
    {f56 : Addr} {od56 an56 : Option Addr} {sl56 : Array (Option Value)} {oc56 kV56 dc56 pm56 cd56 ct56 : Value}
    (a56 : PySem.W.nsIn K mainGlobals "_law_off_right" = some (some (.ref f56)))
    (l56 : K.lookup f56 = some ⟨oc56, od56, .func (PySem.W.fnOf "_law_off_right" "_law_off_right" (defArgs (topS 56)) (defBody (topS 56)) (defScope (topS 56)) .none kV56 dc56 pm56 an56 cd56 ct56), sl56⟩)
    (c56 : PySem.W.codeIn K cd56 "_law_off_right" = true)
    (k56 : PySem.W.keepIn K (.ref f56) = true)
    {f57 : Addr} {od57 an57 : Option Addr} {sl57 : Array (Option Value)} {oc57 kV57 dc57 pm57 cd57 ct57 : Value}
    (a57 : PySem.W.nsIn K mainGlobals "_law_refusal" = some (some (.ref f57)))
    (l57 : K.lookup f57 = some ⟨oc57, od57, .func (PySem.W.fnOf "_law_refusal" "_law_refusal" (defArgs (topS 57)) (defBody (topS 57)) (defScope (topS 57)) .none kV57 dc57 pm57 an57 cd57 ct57), sl57⟩)
    (c57 : PySem.W.codeIn K cd57 "_law_refusal" = true)
    (k57 : PySem.W.keepIn K (.ref f57) = true)
    {f58 : Addr} {od58 an58 : Option Addr} {sl58 : Array (Option Value)} {oc58 kV58 dc58 pm58 cd58 ct58 : Value}
    (a58 : PySem.W.nsIn K mainGlobals "_law_changed_right" = some (some (.ref f58)))
    (l58 : K.lookup f58 = some ⟨oc58, od58, .func (PySem.W.fnOf "_law_changed_right" "_law_changed_right" (defArgs (topS 58)) (defBody (topS 58)) (defScope (topS 58)) .none kV58 dc58 pm58 an58 cd58 ct58), sl58⟩)
    (c58 : PySem.W.codeIn K cd58 "_law_changed_right" = true)
    (k58 : PySem.W.keepIn K (.ref f58) = true)
    {f59 : Addr} {od59 an59 : Option Addr} {sl59 : Array (Option Value)} {oc59 kV59 dc59 pm59 cd59 ct59 : Value}
    (a59 : PySem.W.nsIn K mainGlobals "_law_refused_right" = some (some (.ref f59)))
    (l59 : K.lookup f59 = some ⟨oc59, od59, .func (PySem.W.fnOf "_law_refused_right" "_law_refused_right" (defArgs (topS 59)) (defBody (topS 59)) (defScope (topS 59)) .none kV59 dc59 pm59 an59 cd59 ct59), sl59⟩)
    (c59 : PySem.W.codeIn K cd59 "_law_refused_right" = true)
    (k59 : PySem.W.keepIn K (.ref f59) = true)
    {f60 : Addr} {od60 an60 : Option Addr} {sl60 : Array (Option Value)} {oc60 kV60 dc60 pm60 cd60 ct60 : Value}
    (a60 : PySem.W.nsIn K mainGlobals "_law_soft_right" = some (some (.ref f60)))
    (l60 : K.lookup f60 = some ⟨oc60, od60, .func (PySem.W.fnOf "_law_soft_right" "_law_soft_right" (defArgs (topS 60)) (defBody (topS 60)) (defScope (topS 60)) .none kV60 dc60 pm60 an60 cd60 ct60), sl60⟩)
    (c60 : PySem.W.codeIn K cd60 "_law_soft_right" = true)
    (k60 : PySem.W.keepIn K (.ref f60) = true)
    {f61 : Addr} {od61 an61 : Option Addr} {sl61 : Array (Option Value)} {oc61 kV61 dc61 pm61 cd61 ct61 : Value}
    (a61 : PySem.W.nsIn K mainGlobals "_law_right" = some (some (.ref f61)))
    (l61 : K.lookup f61 = some ⟨oc61, od61, .func (PySem.W.fnOf "_law_right" "_law_right" (defArgs (topS 61)) (defBody (topS 61)) (defScope (topS 61)) .none kV61 dc61 pm61 an61 cd61 ct61), sl61⟩)
    (c61 : PySem.W.codeIn K cd61 "_law_right" = true)
    (k61 : PySem.W.keepIn K (.ref f61) = true)
    {f62 : Addr} {od62 an62 : Option Addr} {sl62 : Array (Option Value)} {oc62 kV62 dc62 pm62 cd62 ct62 : Value}
    (a62 : PySem.W.nsIn K mainGlobals "law" = some (some (.ref f62)))
    (l62 : K.lookup f62 = some ⟨oc62, od62, .func (PySem.W.fnOf "law" "law" (defArgs (topS 62)) (defBody (topS 62)) (defScope (topS 62)) .none kV62 dc62 pm62 an62 cd62 ct62), sl62⟩)
    (c62 : PySem.W.codeIn K cd62 "law" = true)
    (k62 : PySem.W.keepIn K (.ref f62) = true)
    (z_LookupError : PySem.W.nsIn K mainGlobals "LookupError" = some none)
    (z_ValueError : PySem.W.nsIn K mainGlobals "ValueError" = some none)
    (z_abs : PySem.W.nsIn K mainGlobals "abs" = some none)
    (z_all : PySem.W.nsIn K mainGlobals "all" = some none)
    (z_any : PySem.W.nsIn K mainGlobals "any" = some none)
    (z_bool : PySem.W.nsIn K mainGlobals "bool" = some none)
    (z_dict : PySem.W.nsIn K mainGlobals "dict" = some none)
    (z_enumerate : PySem.W.nsIn K mainGlobals "enumerate" = some none)
    (z_int : PySem.W.nsIn K mainGlobals "int" = some none)
    (z_isinstance : PySem.W.nsIn K mainGlobals "isinstance" = some none)
    (z_len : PySem.W.nsIn K mainGlobals "len" = some none)
    (z_list : PySem.W.nsIn K mainGlobals "list" = some none)
    (z_max : PySem.W.nsIn K mainGlobals "max" = some none)
    (z_min : PySem.W.nsIn K mainGlobals "min" = some none)
    (z_range : PySem.W.nsIn K mainGlobals "range" = some none)
    (z_sorted : PySem.W.nsIn K mainGlobals "sorted" = some none)
    (z_str : PySem.W.nsIn K mainGlobals "str" = some none)
    (z_tuple : PySem.W.nsIn K mainGlobals "tuple" = some none)
    (z_zip : PySem.W.nsIn K mainGlobals "zip" = some none)
    {t_LETTERS : Tok}
    (q_LETTERS : PySem.W.nsIn K mainGlobals "LETTERS" = some (some (.str "abcdefghijklmnopqrstuvwxyz" t_LETTERS)))
    {t_LONGEST_NAME : Tok}
    (q_LONGEST_NAME : PySem.W.nsIn K mainGlobals "LONGEST_NAME" = some (some (.int 8 t_LONGEST_NAME)))
    {C1 : Addr}
    {I1 N1 : Addr} {nm1 qn1 : Str} {bs1 : List Value} {sn1 : List Str} {su1 : List Value} {ab1 : Bool} {co1 : Option Bool} {dd1 : Option Addr} {u1 v1 w1 x1 y1 : Option Value} {od1 an1 : Option Addr} {sl1 : Array (Option Value)} {oc1 dc1 pm1 cd1 ct1 : Value}
    (o1_a : PySem.W.nsIn K mainGlobals "NoWheel" = some (some (.ref C1)))
    (o1_x : K.lookup C1 = some (excClassObj nm1 qn1 C1 N1 bs1 [.type "LookupError", .type "Exception", .type "BaseException", .type "object"] true sn1 su1 ab1 co1 dd1 u1 v1 w1 x1 y1 "LookupError.__new__"))
    (o1_s : PySem.W.findIn K (.ref C1) "__setattr__" = some (some (.builtin "object.__setattr__")))
    (o1_n : PySem.W.findIn K (.ref C1) "name" = some none)
    (o1_i : PySem.W.findIn K (.ref C1) "__init__" = some (some (.ref I1)))
    (o1_t : PySem.W.typeIn K (.ref I1) = some (.type "function"))
    (o1_l : K.lookup I1 = some ⟨oc1, od1, .func (PySem.W.fnOf "__init__" "NoWheel.__init__" (defArgs (initOf (topS 1))) (defBody (initOf (topS 1))) (defScope (initOf (topS 1))) .none .none dc1 pm1 an1 cd1 ct1), sl1⟩)
    (o1_c : PySem.W.codeIn K cd1 "NoWheel.__init__" = true)
    (o1_k : PySem.W.keepIn K (.ref C1) = true)
    (o1_b : PySem.W.subIn K (.ref C1) (.type "BaseException") = some true)
    (o1_y : PySem.W.typeIn K (.ref C1) = some (.type "type"))
    (o1_g : PySem.W.findIn K (.ref C1) "__getattribute__" = some (some (.builtin "BaseException.__getattribute__")))
    (o1_h : PySem.W.findIn K (.ref C1) "__getattr__" = some none)
    (o1_d : PySem.W.hasDictIn K C1 = true)
    (o1_e : PySem.W.findIn K (.ref C1) "__class__" = some (some (.builtin "object.__class__")))
    (o1_m : PySem.W.mroIn K C1 (.type "object") = some true)
    {C2 : Addr}
    {I2 N2 : Addr} {nm2 qn2 : Str} {bs2 : List Value} {sn2 : List Str} {su2 : List Value} {ab2 : Bool} {co2 : Option Bool} {dd2 : Option Addr} {u2 v2 w2 x2 y2 : Option Value} {od2 an2 : Option Addr} {sl2 : Array (Option Value)} {oc2 dc2 pm2 cd2 ct2 : Value}
    (o2_a : PySem.W.nsIn K mainGlobals "NoSaying" = some (some (.ref C2)))
    (o2_x : K.lookup C2 = some (excClassObj nm2 qn2 C2 N2 bs2 [.type "LookupError", .type "Exception", .type "BaseException", .type "object"] true sn2 su2 ab2 co2 dd2 u2 v2 w2 x2 y2 "LookupError.__new__"))
    (o2_s : PySem.W.findIn K (.ref C2) "__setattr__" = some (some (.builtin "object.__setattr__")))
    (o2_n : PySem.W.findIn K (.ref C2) "name" = some none)
    (o2_i : PySem.W.findIn K (.ref C2) "__init__" = some (some (.ref I2)))
    (o2_t : PySem.W.typeIn K (.ref I2) = some (.type "function"))
    (o2_l : K.lookup I2 = some ⟨oc2, od2, .func (PySem.W.fnOf "__init__" "NoSaying.__init__" (defArgs (initOf (topS 2))) (defBody (initOf (topS 2))) (defScope (initOf (topS 2))) .none .none dc2 pm2 an2 cd2 ct2), sl2⟩)
    (o2_c : PySem.W.codeIn K cd2 "NoSaying.__init__" = true)
    (o2_k : PySem.W.keepIn K (.ref C2) = true)
    (o2_b : PySem.W.subIn K (.ref C2) (.type "BaseException") = some true)
    (o2_y : PySem.W.typeIn K (.ref C2) = some (.type "type"))
    (o2_g : PySem.W.findIn K (.ref C2) "__getattribute__" = some (some (.builtin "BaseException.__getattribute__")))
    (o2_h : PySem.W.findIn K (.ref C2) "__getattr__" = some none)
    (o2_d : PySem.W.hasDictIn K C2 = true)
    (o2_e : PySem.W.findIn K (.ref C2) "__class__" = some (some (.builtin "object.__class__")))
    (o2_m : PySem.W.mroIn K C2 (.type "object") = some true)
    {C3 : Addr}
    {I3 N3 : Addr} {nm3 qn3 : Str} {bs3 : List Value} {sn3 : List Str} {su3 : List Value} {ab3 : Bool} {co3 : Option Bool} {dd3 : Option Addr} {u3 v3 w3 x3 y3 : Option Value} {od3 an3 : Option Addr} {sl3 : Array (Option Value)} {oc3 dc3 pm3 cd3 ct3 : Value}
    (o3_a : PySem.W.nsIn K mainGlobals "Twice" = some (some (.ref C3)))
    (o3_x : K.lookup C3 = some (excClassObj nm3 qn3 C3 N3 bs3 [.type "ValueError", .type "Exception", .type "BaseException", .type "object"] true sn3 su3 ab3 co3 dd3 u3 v3 w3 x3 y3 "ValueError.__new__"))
    (o3_s : PySem.W.findIn K (.ref C3) "__setattr__" = some (some (.builtin "object.__setattr__")))
    (o3_n : PySem.W.findIn K (.ref C3) "name" = some none)
    (o3_i : PySem.W.findIn K (.ref C3) "__init__" = some (some (.ref I3)))
    (o3_t : PySem.W.typeIn K (.ref I3) = some (.type "function"))
    (o3_l : K.lookup I3 = some ⟨oc3, od3, .func (PySem.W.fnOf "__init__" "Twice.__init__" (defArgs (initOf (topS 3))) (defBody (initOf (topS 3))) (defScope (initOf (topS 3))) .none .none dc3 pm3 an3 cd3 ct3), sl3⟩)
    (o3_c : PySem.W.codeIn K cd3 "Twice.__init__" = true)
    (o3_k : PySem.W.keepIn K (.ref C3) = true)
    (o3_b : PySem.W.subIn K (.ref C3) (.type "BaseException") = some true)
    (o3_y : PySem.W.typeIn K (.ref C3) = some (.type "type"))
    (o3_g : PySem.W.findIn K (.ref C3) "__getattribute__" = some (some (.builtin "BaseException.__getattribute__")))
    (o3_h : PySem.W.findIn K (.ref C3) "__getattr__" = some none)
    (o3_d : PySem.W.hasDictIn K C3 = true)
    (o3_e : PySem.W.findIn K (.ref C3) "__class__" = some (some (.builtin "object.__class__")))
    (o3_m : PySem.W.mroIn K C3 (.type "object") = some true)
    {C4 : Addr}
    (o4_a : PySem.W.nsIn K mainGlobals "Unfit" = some (some (.ref C4)))
    (o4_x : PySem.W.excIn K C4 [.type "ValueError", .type "Exception", .type "BaseException", .type "object"] "ValueError.__new__" = true)
    (o4_k : PySem.W.keepIn K (.ref C4) = true)
    (o4_b : PySem.W.subIn K (.ref C4) (.type "BaseException") = some true)
    (o4_y : PySem.W.typeIn K (.ref C4) = some (.type "type"))
    (o4_g : PySem.W.findIn K (.ref C4) "__getattribute__" = some (some (.builtin "BaseException.__getattribute__")))
    (o4_h : PySem.W.findIn K (.ref C4) "__getattr__" = some none)
    (o4_d : PySem.W.hasDictIn K C4 = true)
    (o4_e : PySem.W.findIn K (.ref C4) "__class__" = some (some (.builtin "object.__class__")))
    (o4_m : PySem.W.mroIn K C4 (.type "object") = some true)
    (g_n : PySem.W.specialIn K (.builtin "object.__class__") "__get__" = some (some (.builtin "getset_descriptor.__get__")))
    (g_t : PySem.W.takesIn K (.builtin "object.__class__") = some true)
    (m1_1 : PySem.W.subIn K (.ref C1) (.ref C1) = some true)
    (m1_2 : PySem.W.subIn K (.ref C1) (.ref C2) = some false)
    (m1_3 : PySem.W.subIn K (.ref C1) (.ref C3) = some false)
    (m1_4 : PySem.W.subIn K (.ref C1) (.ref C4) = some false)
    (i1_LookupError : PySem.W.subIn K (.ref C1) (.type "LookupError") = some true)
    (i1_ValueError : PySem.W.subIn K (.ref C1) (.type "ValueError") = some false)
    (m2_1 : PySem.W.subIn K (.ref C2) (.ref C1) = some false)
    (m2_2 : PySem.W.subIn K (.ref C2) (.ref C2) = some true)
    (m2_3 : PySem.W.subIn K (.ref C2) (.ref C3) = some false)
    (m2_4 : PySem.W.subIn K (.ref C2) (.ref C4) = some false)
    (i2_LookupError : PySem.W.subIn K (.ref C2) (.type "LookupError") = some true)
    (i2_ValueError : PySem.W.subIn K (.ref C2) (.type "ValueError") = some false)
    (m3_1 : PySem.W.subIn K (.ref C3) (.ref C1) = some false)
    (m3_2 : PySem.W.subIn K (.ref C3) (.ref C2) = some false)
    (m3_3 : PySem.W.subIn K (.ref C3) (.ref C3) = some true)
    (m3_4 : PySem.W.subIn K (.ref C3) (.ref C4) = some false)
    (i3_LookupError : PySem.W.subIn K (.ref C3) (.type "LookupError") = some false)
    (i3_ValueError : PySem.W.subIn K (.ref C3) (.type "ValueError") = some true)
    (m4_1 : PySem.W.subIn K (.ref C4) (.ref C1) = some false)
    (m4_2 : PySem.W.subIn K (.ref C4) (.ref C2) = some false)
    (m4_3 : PySem.W.subIn K (.ref C4) (.ref C3) = some false)
    (m4_4 : PySem.W.subIn K (.ref C4) (.ref C4) = some true)
    (i4_LookupError : PySem.W.subIn K (.ref C4) (.type "LookupError") = some false)
    (i4_ValueError : PySem.W.subIn K (.ref C4) (.type "ValueError") = some true) :
    Defs K mg ∧ BaseK P w K mg := by
  have D8 : DefAt K mg "tupled" (topS 8) := def_at X G a8 l8 c8 k8
  have D9 : DefAt K mg "is_number" (topS 9) := def_at X G a9 l9 c9 k9
  have D10 : DefAt K mg "is_name" (topS 10) := def_at X G a10 l10 c10 k10
  have D11 : DefAt K mg "is_row" (topS 11) := def_at X G a11 l11 c11 k11
  have D12 : DefAt K mg "ascends" (topS 12) := def_at X G a12 l12 c12 k12
  have D13 : DefAt K mg "wheel_names" (topS 13) := def_at X G a13 l13 c13 k13
  have D14 : DefAt K mg "end_names" (topS 14) := def_at X G a14 l14 c14 k14
  have D15 : DefAt K mg "saying_names" (topS 15) := def_at X G a15 l15 c15 k15
  have D16 : DefAt K mg "need_wheel" (topS 16) := def_at X G a16 l16 c16 k16
  have D17 : DefAt K mg "need_end" (topS 17) := def_at X G a17 l17 c17 k17
  have D18 : DefAt K mg "saying_called" (topS 18) := def_at X G a18 l18 c18 k18
  have D20 : DefAt K mg "is_wheel" (topS 20) := def_at X G a20 l20 c20 k20
  have D21 : DefAt K mg "is_saying" (topS 21) := def_at X G a21 l21 c21 k21
  have D22 : DefAt K mg "is_mill" (topS 22) := def_at X G a22 l22 c22 k22
  have D23 : DefAt K mg "is_begins" (topS 23) := def_at X G a23 l23 c23 k23
  have D24 : DefAt K mg "is_setting" (topS 24) := def_at X G a24 l24 c24 k24
  have D25 : DefAt K mg "begin_table" (topS 25) := def_at X G a25 l25 c25 k25
  have D26 : DefAt K mg "how_far_off" (topS 26) := def_at X G a26 l26 c26 k26
  have D27 : DefAt K mg "off_by" (topS 27) := def_at X G a27 l27 c27 k27
  have D28 : DefAt K mg "unkept" (topS 28) := def_at X G a28 l28 c28 k28
  have D29 : DefAt K mg "with_wheel" (topS 29) := def_at X G a29 l29 c29 k29
  have D30 : DefAt K mg "without_wheel" (topS 30) := def_at X G a30 l30 c30 k30
  have D31 : DefAt K mg "with_saying" (topS 31) := def_at X G a31 l31 c31 k31
  have D32 : DefAt K mg "without_saying" (topS 32) := def_at X G a32 l32 c32 k32
  have D33 : DefAt K mg "turned_saying" (topS 33) := def_at X G a33 l33 c33 k33
  have D34 : DefAt K mg "tidy_saying" (topS 34) := def_at X G a34 l34 c34 k34
  have D35 : DefAt K mg "tidied" (topS 35) := def_at X G a35 l35 c35 k35
  have D36 : DefAt K mg "shifted_saying" (topS 36) := def_at X G a36 l36 c36 k36
  have D37 : DefAt K mg "shifted" (topS 37) := def_at X G a37 l37 c37 k37
  have D38 : DefAt K mg "renamed" (topS 38) := def_at X G a38 l38 c38 k38
  have D40 : DefAt K mg "_law_box" (topS 40) := def_at X G a40 l40 c40 k40
  have D41 : DefAt K mg "_law_take" (topS 41) := def_at X G a41 l41 c41 k41
  have D42 : DefAt K mg "_law_cells" (topS 42) := def_at X G a42 l42 c42 k42
  have D43 : DefAt K mg "_law_pick" (topS 43) := def_at X G a43 l43 c43 k43
  have D44 : DefAt K mg "_law_same" (topS 44) := def_at X G a44 l44 c44 k44
  have D45 : DefAt K mg "_law_lists" (topS 45) := def_at X G a45 l45 c45 k45
  have D46 : DefAt K mg "_law_half" (topS 46) := def_at X G a46 l46 c46 k46
  have D47 : DefAt K mg "_law_wheels" (topS 47) := def_at X G a47 l47 c47 k47
  have D48 : DefAt K mg "_law_kept" (topS 48) := def_at X G a48 l48 c48 k48
  have D49 : DefAt K mg "_law_begins" (topS 49) := def_at X G a49 l49 c49 k49
  have D50 : DefAt K mg "_law_table" (topS 50) := def_at X G a50 l50 c50 k50
  have D51 : DefAt K mg "_law_kit" (topS 51) := def_at X G a51 l51 c51 k51
  have D52 : DefAt K mg "_law_pair" (topS 52) := def_at X G a52 l52 c52 k52
  have D53 : DefAt K mg "_law_heard" (topS 53) := def_at X G a53 l53 c53 k53
  have D54 : DefAt K mg "_law_by_hand_right" (topS 54) := def_at X G a54 l54 c54 k54
  have D55 : DefAt K mg "_law_begins_right" (topS 55) := def_at X G a55 l55 c55 k55
  have D56 : DefAt K mg "_law_off_right" (topS 56) := def_at X G a56 l56 c56 k56
  have D57 : DefAt K mg "_law_refusal" (topS 57) := def_at X G a57 l57 c57 k57
  have D58 : DefAt K mg "_law_changed_right" (topS 58) := def_at X G a58 l58 c58 k58
  have D59 : DefAt K mg "_law_refused_right" (topS 59) := def_at X G a59 l59 c59 k59
  have D60 : DefAt K mg "_law_soft_right" (topS 60) := def_at X G a60 l60 c60 k60
  have D61 : DefAt K mg "_law_right" (topS 61) := def_at X G a61 l61 c61 k61
  have D62 : DefAt K mg "law" (topS 62) := def_at X G a62 l62 c62 k62
  have Z_LookupError : mg "LookupError" = none := PySem.W.mg_none_of X G z_LookupError
  have Z_ValueError : mg "ValueError" = none := PySem.W.mg_none_of X G z_ValueError
  have Z_abs : mg "abs" = none := PySem.W.mg_none_of X G z_abs
  have Z_all : mg "all" = none := PySem.W.mg_none_of X G z_all
  have Z_any : mg "any" = none := PySem.W.mg_none_of X G z_any
  have Z_bool : mg "bool" = none := PySem.W.mg_none_of X G z_bool
  have Z_dict : mg "dict" = none := PySem.W.mg_none_of X G z_dict
  have Z_enumerate : mg "enumerate" = none := PySem.W.mg_none_of X G z_enumerate
  have Z_int : mg "int" = none := PySem.W.mg_none_of X G z_int
  have Z_isinstance : mg "isinstance" = none := PySem.W.mg_none_of X G z_isinstance
  have Z_len : mg "len" = none := PySem.W.mg_none_of X G z_len
  have Z_list : mg "list" = none := PySem.W.mg_none_of X G z_list
  have Z_max : mg "max" = none := PySem.W.mg_none_of X G z_max
  have Z_min : mg "min" = none := PySem.W.mg_none_of X G z_min
  have Z_range : mg "range" = none := PySem.W.mg_none_of X G z_range
  have Z_sorted : mg "sorted" = none := PySem.W.mg_none_of X G z_sorted
  have Z_str : mg "str" = none := PySem.W.mg_none_of X G z_str
  have Z_tuple : mg "tuple" = none := PySem.W.mg_none_of X G z_tuple
  have Z_zip : mg "zip" = none := PySem.W.mg_none_of X G z_zip
  have Q_LETTERS := PySem.W.mg_of X G q_LETTERS
  have Q_LONGEST_NAME := PySem.W.mg_of X G q_LONGEST_NAME
  have O1 : OwnAt K mg [.type "LookupError", .type "Exception", .type "BaseException", .type "object"] "LookupError.__new__" "NoWheel" "NoWheel.__init__" "name" C1 := own_at (st := initOf (topS 1)) X G ⟨_, _, _, _, _, _, rfl, rfl, rfl⟩ o1_a o1_x o1_s o1_n o1_i o1_t o1_l o1_c o1_k o1_b o1_y o1_g o1_h o1_d o1_e g_n g_t o1_m
  have O2 : OwnAt K mg [.type "LookupError", .type "Exception", .type "BaseException", .type "object"] "LookupError.__new__" "NoSaying" "NoSaying.__init__" "name" C2 := own_at (st := initOf (topS 2)) X G ⟨_, _, _, _, _, _, rfl, rfl, rfl⟩ o2_a o2_x o2_s o2_n o2_i o2_t o2_l o2_c o2_k o2_b o2_y o2_g o2_h o2_d o2_e g_n g_t o2_m
  have O3 : OwnAt K mg [.type "ValueError", .type "Exception", .type "BaseException", .type "object"] "ValueError.__new__" "Twice" "Twice.__init__" "name" C3 := own_at (st := initOf (topS 3)) X G ⟨_, _, _, _, _, _, rfl, rfl, rfl⟩ o3_a o3_x o3_s o3_n o3_i o3_t o3_l o3_c o3_k o3_b o3_y o3_g o3_h o3_d o3_e g_n g_t o3_m
  have O4 : PlainAt K mg [.type "ValueError", .type "Exception", .type "BaseException", .type "object"] "ValueError.__new__" "Unfit" C4 := plain_at X G o4_a o4_x o4_k o4_b o4_y o4_g o4_h o4_d o4_e g_n g_t o4_m
  refine ⟨⟨D8, D9, D10, D11, D12, D13, D14, D15, D16, D17, D18, D20, D21, D22, D23, D24, D25, D26, D27, D28, D29, D30, D31, D32, D33, D34, D35, D36, D37, D38, D40, D41, D42, D43, D44, D45, D46, D47, D48, D49, D50, D51, D52, D53, D54, D55, D56, D57, D58, D59, D60, D61, D62⟩, base_of ?h1 ?h2 ?h3 ?h4 ?h5 ?h6 ?h7 ?h8⟩
  case h1 => exact List.forall_mem_cons.mpr ⟨gl_str (by decide +kernel) ⟨_, Q_LETTERS⟩, List.forall_mem_cons.mpr ⟨gl_int (by decide +kernel) ⟨_, Q_LONGEST_NAME⟩, List.forall_mem_cons.mpr ⟨gl_ty (by decide +kernel) (by decide +kernel) (by decide +kernel) Z_int, List.forall_mem_cons.mpr ⟨gl_ty (by decide +kernel) (by decide +kernel) (by decide +kernel) Z_str, List.forall_mem_cons.mpr ⟨gl_ty (by decide +kernel) (by decide +kernel) (by decide +kernel) Z_tuple, List.forall_mem_cons.mpr ⟨gl_ty (by decide +kernel) (by decide +kernel) (by decide +kernel) Z_list, List.forall_mem_cons.mpr ⟨gl_ty (by decide +kernel) (by decide +kernel) (by decide +kernel) Z_dict, List.forall_mem_cons.mpr ⟨gl_ty (by decide +kernel) (by decide +kernel) (by decide +kernel) Z_bool, List.forall_mem_cons.mpr ⟨gl_fn (by decide +kernel) D8, List.forall_mem_cons.mpr ⟨gl_fn (by decide +kernel) D9, List.forall_mem_cons.mpr ⟨gl_fn (by decide +kernel) D10, List.forall_mem_cons.mpr ⟨gl_fn (by decide +kernel) D11, List.forall_mem_cons.mpr ⟨gl_fn (by decide +kernel) D12, List.forall_mem_cons.mpr ⟨gl_fn (by decide +kernel) D13, List.forall_mem_cons.mpr ⟨gl_fn (by decide +kernel) D14, List.forall_mem_cons.mpr ⟨gl_fn (by decide +kernel) D15, List.forall_mem_cons.mpr ⟨gl_fn (by decide +kernel) D16, List.forall_mem_cons.mpr ⟨gl_fn (by decide +kernel) D17, List.forall_mem_cons.mpr ⟨gl_fn (by decide +kernel) D18, List.forall_mem_cons.mpr ⟨gl_fn (by decide +kernel) D20, List.forall_mem_cons.mpr ⟨gl_fn (by decide +kernel) D21, List.forall_mem_cons.mpr ⟨gl_fn (by decide +kernel) D22, List.forall_mem_cons.mpr ⟨gl_fn (by decide +kernel) D23, List.forall_mem_cons.mpr ⟨gl_fn (by decide +kernel) D24, List.forall_mem_cons.mpr ⟨gl_fn (by decide +kernel) D25, List.forall_mem_cons.mpr ⟨gl_fn (by decide +kernel) D26, List.forall_mem_cons.mpr ⟨gl_fn (by decide +kernel) D27, List.forall_mem_cons.mpr ⟨gl_fn (by decide +kernel) D28, List.forall_mem_cons.mpr ⟨gl_fn (by decide +kernel) D29, List.forall_mem_cons.mpr ⟨gl_fn (by decide +kernel) D30, List.forall_mem_cons.mpr ⟨gl_fn (by decide +kernel) D31, List.forall_mem_cons.mpr ⟨gl_fn (by decide +kernel) D32, List.forall_mem_cons.mpr ⟨gl_fn (by decide +kernel) D33, List.forall_mem_cons.mpr ⟨gl_fn (by decide +kernel) D34, List.forall_mem_cons.mpr ⟨gl_fn (by decide +kernel) D35, List.forall_mem_cons.mpr ⟨gl_fn (by decide +kernel) D36, List.forall_mem_cons.mpr ⟨gl_fn (by decide +kernel) D37, List.forall_mem_cons.mpr ⟨gl_fn (by decide +kernel) D38, List.forall_mem_cons.mpr ⟨gl_fn (by decide +kernel) D40, List.forall_mem_cons.mpr ⟨gl_fn (by decide +kernel) D41, List.forall_mem_cons.mpr ⟨gl_fn (by decide +kernel) D42, List.forall_mem_cons.mpr ⟨gl_fn (by decide +kernel) D43, List.forall_mem_cons.mpr ⟨gl_fn (by decide +kernel) D44, List.forall_mem_cons.mpr ⟨gl_fn (by decide +kernel) D45, List.forall_mem_cons.mpr ⟨gl_fn (by decide +kernel) D46, List.forall_mem_cons.mpr ⟨gl_fn (by decide +kernel) D47, List.forall_mem_cons.mpr ⟨gl_fn (by decide +kernel) D48, List.forall_mem_cons.mpr ⟨gl_fn (by decide +kernel) D49, List.forall_mem_cons.mpr ⟨gl_fn (by decide +kernel) D50, List.forall_mem_cons.mpr ⟨gl_fn (by decide +kernel) D51, List.forall_mem_cons.mpr ⟨gl_fn (by decide +kernel) D52, List.forall_mem_cons.mpr ⟨gl_fn (by decide +kernel) D53, List.forall_mem_cons.mpr ⟨gl_fn (by decide +kernel) D54, List.forall_mem_cons.mpr ⟨gl_fn (by decide +kernel) D55, List.forall_mem_cons.mpr ⟨gl_fn (by decide +kernel) D56, List.forall_mem_cons.mpr ⟨gl_fn (by decide +kernel) D57, List.forall_mem_cons.mpr ⟨gl_fn (by decide +kernel) D58, List.forall_mem_cons.mpr ⟨gl_fn (by decide +kernel) D59, List.forall_mem_cons.mpr ⟨gl_fn (by decide +kernel) D60, List.forall_mem_cons.mpr ⟨gl_fn (by decide +kernel) D61, List.forall_mem_cons.mpr ⟨gl_fn (by decide +kernel) D62, fun _ q => by cases q⟩⟩⟩⟩⟩⟩⟩⟩⟩⟩⟩⟩⟩⟩⟩⟩⟩⟩⟩⟩⟩⟩⟩⟩⟩⟩⟩⟩⟩⟩⟩⟩⟩⟩⟩⟩⟩⟩⟩⟩⟩⟩⟩⟩⟩⟩⟩⟩⟩⟩⟩⟩⟩⟩⟩⟩⟩⟩⟩⟩⟩
  case h2 => exact List.forall_mem_cons.mpr ⟨⟨Z_abs, (by decide +kernel), (by decide +kernel), (by decide +kernel)⟩, List.forall_mem_cons.mpr ⟨⟨Z_all, (by decide +kernel), (by decide +kernel), (by decide +kernel)⟩, List.forall_mem_cons.mpr ⟨⟨Z_any, (by decide +kernel), (by decide +kernel), (by decide +kernel)⟩, List.forall_mem_cons.mpr ⟨⟨Z_dict, (by decide +kernel), (by decide +kernel), (by decide +kernel)⟩, List.forall_mem_cons.mpr ⟨⟨Z_int, (by decide +kernel), (by decide +kernel), (by decide +kernel)⟩, List.forall_mem_cons.mpr ⟨⟨Z_isinstance, (by decide +kernel), (by decide +kernel), (by decide +kernel)⟩, List.forall_mem_cons.mpr ⟨⟨Z_len, (by decide +kernel), (by decide +kernel), (by decide +kernel)⟩, List.forall_mem_cons.mpr ⟨⟨Z_list, (by decide +kernel), (by decide +kernel), (by decide +kernel)⟩, List.forall_mem_cons.mpr ⟨⟨Z_max, (by decide +kernel), (by decide +kernel), (by decide +kernel)⟩, List.forall_mem_cons.mpr ⟨⟨Z_min, (by decide +kernel), (by decide +kernel), (by decide +kernel)⟩, List.forall_mem_cons.mpr ⟨⟨Z_sorted, (by decide +kernel), (by decide +kernel), (by decide +kernel)⟩, List.forall_mem_cons.mpr ⟨⟨Z_tuple, (by decide +kernel), (by decide +kernel), (by decide +kernel)⟩, fun _ q => by cases q⟩⟩⟩⟩⟩⟩⟩⟩⟩⟩⟩⟩
  case h3 => exact List.forall_mem_cons.mpr ⟨Z_enumerate, List.forall_mem_cons.mpr ⟨Z_range, List.forall_mem_cons.mpr ⟨Z_zip, fun _ q => by cases q⟩⟩⟩
  case h4 => exact List.forall_mem_cons.mpr ⟨rs_one F.excBase_LookupError (fun self => F.store_LookupError.passes self) (by decide +kernel) fld_name (by decide +kernel) O1, List.forall_mem_cons.mpr ⟨rs_one F.excBase_LookupError (fun self => F.store_LookupError.passes self) (by decide +kernel) fld_name (by decide +kernel) O2, List.forall_mem_cons.mpr ⟨rs_one F.excBase_ValueError (fun self => F.store_ValueError.passes self) (by decide +kernel) fld_name (by decide +kernel) O3, List.forall_mem_cons.mpr ⟨rs_none F.excBase_ValueError (by decide +kernel) O4, fun _ q => by cases q⟩⟩⟩⟩
  case h5 => exact List.forall_mem_cons.mpr ⟨xc_own (by decide +kernel) O1, List.forall_mem_cons.mpr ⟨xc_own (by decide +kernel) O2, List.forall_mem_cons.mpr ⟨xc_own (by decide +kernel) O3, List.forall_mem_cons.mpr ⟨xc_plain (by decide +kernel) O4, fun _ q => by cases q⟩⟩⟩⟩
  case h6 => exact List.forall_mem_cons.mpr ⟨⟨xm_sub O1.gC O1.gC O1.exc O1.tC m1_1, (by decide +kernel)⟩, List.forall_mem_cons.mpr ⟨⟨xm_sub O1.gC O2.gC O2.exc O2.tC m1_2, (by decide +kernel)⟩, List.forall_mem_cons.mpr ⟨⟨xm_sub O1.gC O3.gC O3.exc O3.tC m1_3, (by decide +kernel)⟩, List.forall_mem_cons.mpr ⟨⟨xm_sub O1.gC O4.gC O4.exc O4.tC m1_4, (by decide +kernel)⟩, List.forall_mem_cons.mpr ⟨⟨xm_sub O2.gC O1.gC O1.exc O1.tC m2_1, (by decide +kernel)⟩, List.forall_mem_cons.mpr ⟨⟨xm_sub O2.gC O2.gC O2.exc O2.tC m2_2, (by decide +kernel)⟩, List.forall_mem_cons.mpr ⟨⟨xm_sub O2.gC O3.gC O3.exc O3.tC m2_3, (by decide +kernel)⟩, List.forall_mem_cons.mpr ⟨⟨xm_sub O2.gC O4.gC O4.exc O4.tC m2_4, (by decide +kernel)⟩, List.forall_mem_cons.mpr ⟨⟨xm_sub O3.gC O1.gC O1.exc O1.tC m3_1, (by decide +kernel)⟩, List.forall_mem_cons.mpr ⟨⟨xm_sub O3.gC O2.gC O2.exc O2.tC m3_2, (by decide +kernel)⟩, List.forall_mem_cons.mpr ⟨⟨xm_sub O3.gC O3.gC O3.exc O3.tC m3_3, (by decide +kernel)⟩, List.forall_mem_cons.mpr ⟨⟨xm_sub O3.gC O4.gC O4.exc O4.tC m3_4, (by decide +kernel)⟩, List.forall_mem_cons.mpr ⟨⟨xm_sub O4.gC O1.gC O1.exc O1.tC m4_1, (by decide +kernel)⟩, List.forall_mem_cons.mpr ⟨⟨xm_sub O4.gC O2.gC O2.exc O2.tC m4_2, (by decide +kernel)⟩, List.forall_mem_cons.mpr ⟨⟨xm_sub O4.gC O3.gC O3.exc O3.tC m4_3, (by decide +kernel)⟩, List.forall_mem_cons.mpr ⟨⟨xm_sub O4.gC O4.gC O4.exc O4.tC m4_4, (by decide +kernel)⟩, fun _ q => by cases q⟩⟩⟩⟩⟩⟩⟩⟩⟩⟩⟩⟩⟩⟩⟩⟩
  case h7 => exact List.forall_mem_cons.mpr ⟨xf_own O1, List.forall_mem_cons.mpr ⟨xf_own O2, List.forall_mem_cons.mpr ⟨xf_own O3, fun _ q => by cases q⟩⟩⟩
  case h8 => exact List.forall_mem_cons.mpr ⟨xi_at O1.gC O1.exc Z_LookupError (by decide +kernel) (by decide +kernel) (by decide +kernel) (kit_sub (by decide +kernel) i1_LookupError), List.forall_mem_cons.mpr ⟨xi_at O1.gC O1.exc Z_ValueError (by decide +kernel) (by decide +kernel) (by decide +kernel) (kit_sub (by decide +kernel) i1_ValueError), List.forall_mem_cons.mpr ⟨xi_at O2.gC O2.exc Z_LookupError (by decide +kernel) (by decide +kernel) (by decide +kernel) (kit_sub (by decide +kernel) i2_LookupError), List.forall_mem_cons.mpr ⟨xi_at O2.gC O2.exc Z_ValueError (by decide +kernel) (by decide +kernel) (by decide +kernel) (kit_sub (by decide +kernel) i2_ValueError), List.forall_mem_cons.mpr ⟨xi_at O3.gC O3.exc Z_LookupError (by decide +kernel) (by decide +kernel) (by decide +kernel) (kit_sub (by decide +kernel) i3_LookupError), List.forall_mem_cons.mpr ⟨xi_at O3.gC O3.exc Z_ValueError (by decide +kernel) (by decide +kernel) (by decide +kernel) (kit_sub (by decide +kernel) i3_ValueError), List.forall_mem_cons.mpr ⟨xi_at O4.gC O4.exc Z_LookupError (by decide +kernel) (by decide +kernel) (by decide +kernel) (kit_sub (by decide +kernel) i4_LookupError), List.forall_mem_cons.mpr ⟨xi_at O4.gC O4.exc Z_ValueError (by decide +kernel) (by decide +kernel) (by decide +kernel) (kit_sub (by decide +kernel) i4_ValueError), fun _ q => by cases q⟩⟩⟩⟩⟩⟩⟩⟩
end K00
set_option Elab.async false
set_option linter.all false
set_option maxRecDepth 100000
set_option maxHeartbeats 4000000
namespace K00
open PySem PySem.Spec PyProof.Rows L2 Dp
/-- what is left: the law's reading comes out true at every script -/
def LawTrue : Prop := ∀ ns : List Int, ns.length ≤ 63 → (∀ z ∈ ns, Builtin.Int.intBits z ≤ 1048576) → ∃ st, f_law [.rl (ns.map .int)] ⟨0, []⟩ = .ok (.bl true) st
def spLaw (K : PySem.W.Frag) : Sp := fun vs H Q _ => ∃ (a : Addr) (ns : List Int), vs = [.ref a] ∧ SqR K H a (ns.map V.int) ∧ ns.length ≤ 63 ∧ (∀ z ∈ ns, Builtin.Int.intBits z ≤ 1048576) ∧ ∀ H', Q (.bl true) H'
theorem reps_ints {W : Wd} {ρ : List Addr} {H : Hp} : ∀ ns : List Int, Reps W ρ H (ns.map D.int) (ns.map V.int)
  | [] => Reps.nil
  | n :: ns => Reps.cons (rep_int.mpr rfl) (reps_ints ns)
theorem law_fn {P : Program} {w : World} {K : PySem.W.Frag} {mg : Str → Option Value} {base : Heap} (hL : LawTrue) (Dd : Defs K mg) (B : BaseK P w K mg) {a : Addr} {fd : FuncData} (F : Fun K "law" "law" (topS 62) a fd) (hm : mg "law" = some (.ref a)) :
    FnOk P w K mg base (L2.CX P w) 21 a fd ["_law_script"] (spLaw K) := by
  have q : FnOk P w K mg base (L2.CX P w) 21 a fd ["_law_script"] (spOf ⟨K, mg⟩ 1 f_law) :=
    def_ok (c := claw f__law_box f__law_by_hand_right f__law_cells f__law_right) F s_law v_law (lib_of (kt := kt) (base := base) B (List.forall_mem_cons.mpr ⟨(ok__law_box B Dd).mono (by omega), List.forall_mem_cons.mpr ⟨(ok__law_by_hand_right B Dd).mono (by omega),
      List.forall_mem_cons.mpr ⟨(ok__law_cells B Dd).mono (by omega), List.forall_mem_cons.mpr ⟨(ok__law_right B Dd).mono (by omega), fun e h => by cases h⟩⟩⟩⟩) (fun e h => by cases h)) (rlaw _ _ _ _)
  refine q.imp fun vs H Q E h => ?_
  obtain ⟨b, ns, rfl, hs, hl, hb, hq⟩ := h
  obtain ⟨st, e⟩ := hL ns hl hb
  refine ⟨rfl, [], ⟨0, []⟩, [.rl (ns.map .int)], Reps.cons (rep_rl.mpr ⟨b, _, rfl, hs, reps_ints ns⟩) Reps.nil, ⟨rfl, rfl, List.nodup_nil, fun n c d h1 => by simp at h1⟩, ?_⟩
  rw [e]
  intro ρ' H' v ex r hv
  cases rep_bl.mp hv
  exact hq H'
theorem law_end {P : Program} {w : World} {K : PySem.W.Frag} {mg : Str → Option Value} {fa : Addr} (hL : LawTrue) (DB : Defs K mg ∧ BaseK P w K mg) (hmg : mg "law" = some (.ref fa)) :
    ∃ fd : FuncData, (∀ (s : Shared) (u : Value), BindsTo s fd ⟨[u], []⟩ [("_law_script", u)]) ∧ ∀ base : Heap, K.In base → base.Ns mainGlobals mg → FnOk P w K mg base (L2.CX P w) 21 fa fd ["_law_script"] (spLaw K) := by
  obtain ⟨Dd, B⟩ := DB
  obtain ⟨a, fd, hm, F⟩ := Dd.d62
  have hm' : mg "law" = some (.ref a) := hm
  rw [hmg] at hm'
  cases hm'
  refine ⟨fd, fun s u => ?_, fun base _ _ => law_fn hL Dd B F hmg⟩
  obtain ⟨oc, od, kV, doc, pm, an, cdv, ct, osl, rfl, lk, hcd⟩ := F.ex
  exact .of_eq rfl
theorem law_sp {K : PySem.W.Frag} {H : Hp} {a : Addr} {ns : List Int} (hl : ns.length ≤ 63) (hb : ∀ z ∈ ns, Builtin.Int.intBits z ≤ 1048576) (hO : Only H) (hS : SqL K H a (ns.map V.int)) : spLaw K [.ref a] H (fun v _ => v = .bl true) fun _ _ _ => False := by
  refine ⟨a, ns, rfl, ?_, hl, hb, fun _ => rfl⟩
  rcases hS with (h | h) | h
  · rcases hO a with z | ⟨o, xs, z⟩
    · rw [h] at z; cases z
    · rw [h] at z; cases z
  · exact .inl h
  · exact .inr h
theorem law_cx {P : Program} {w : World} {H : Hp} {s : Shared} {e : Value} {s' : Shared} (h : L2.CX P w [] H s (fun _ _ _ => False) e s') : False := by
  obtain ⟨_, _, _, _, _, _, _, _, _, _, _, _, z⟩ := h
  exact z.elim
end K00
set_option Elab.async false
set_option linter.all false
set_option maxRecDepth 100000
set_option maxHeartbeats 1000000
namespace K00
open PySem PySem.Spec PyProof.Rows L2 Dp
theorem take_a {st : Store} {t : Nat} {a b c n : Int} (wf : st.cs.length = st.length) (h : st[t]? = some (.lst [.int a, .int b, .int c])) (ha : 0 < a) (hn : 0 < n) (hn2 : n < 1073741824) :
    f__law_take [.ref t, .int n] st = .ok (.int (a % n)) (st.set t (.lst [.int (a / n), .int b, .int c])) := by
  have s0 : ((0 : Int) < 3) = True := by simp
  simp [f__law_take, runF, b_law_take, startD, sSeq, sIf, asB, mCmp, mIx, mSlot, mC, Out.bind, ixOp, ixL, h, L2.atI, L2.ixN, cmpOp, ha, sAsg, mBin, binOp, mCallB, callOp, mCons, mNil, bindTg, sSub, setOp, sRet, hn, hn2]
end K00
namespace K00
open PySem PySem.Spec PyProof.Rows L2 Dp
def tOnce (b c : Int) : Int := (b + 48271 * c) * (39373 + c) % 2147483647
def tOdd (b c : Int) : Int := tOnce b c % 40009 + 7
def tTwice (b c : Int) : Int := (tOnce b c + c + b / 1000003) * tOdd b c % 2147483629
def tNum (b c : Int) : Int := (tTwice b c * 48271 + tOnce b c) % 2147483587 / 64
theorem take_b {st : Store} {t : Nat} {a b c n : Int} (wf : st.cs.length = st.length) (h : st[t]? = some (.lst [.int a, .int b, .int c])) (ha : ¬ 0 < a) (hc : 0 ≤ c) (hc2 : c < 1000000000) (hn : 0 < n) :
    f__law_take [.ref t, .int n] st = .ok (.int (tNum b (c + 1) % n)) (st.set t (.lst [.int a, .int b, .int (c + 1)])) := by
  have hl := st_lt h
  have h2 : (st.set t (.lst [.int a, .int b, .int (c + 1)]))[t]? = some (.lst [.int a, .int b, .int (c + 1)]) := st_set_self wf hl
  have m1 : mulOk (b + 48271 * (c + 1)) (39373 + (c + 1)) = true := by
    unfold mulOk
    simp only [Bool.or_eq_true, Bool.and_eq_true, decide_eq_true_eq]
    exact .inr ⟨by omega, by omega⟩
  have m2 : mulOk (tOnce b (c + 1) + (c + 1) + b / 1000003) (tOdd b (c + 1)) = true := by
    unfold mulOk tOdd
    simp only [Bool.or_eq_true, Bool.and_eq_true, decide_eq_true_eq]
    exact .inr ⟨by omega, by omega⟩
  have m0 : mulOk 48271 (c + 1) = true := by
    unfold mulOk
    simp only [Bool.or_eq_true, Bool.and_eq_true, decide_eq_true_eq]
    exact .inl ⟨by omega, by omega⟩
  have m3 : mulOk (tTwice b (c + 1)) 48271 = true := by
    unfold mulOk
    simp only [Bool.or_eq_true, Bool.and_eq_true, decide_eq_true_eq]
    exact .inr ⟨by omega, by omega⟩
  unfold tNum tTwice tOdd tOnce at *
  simp [f__law_take, runF, b_law_take, startD, sSeq, sIf, asB, mCmp, mIx, mSlot, mC, Out.bind, ixOp, ixL, h, h2, L2.atI, L2.ixN, cmpOp, ha, sAsg, mBin, binOp, mCallB, callOp, mCons, mNil, bindTg, sSub, setOp, sRet, sNil, hn, m0, m1, m2, m3]
end K00
namespace K00
open PySem PySem.Spec PyProof.Rows L2 Dp
/-- a tub that may still be drawn from m times -/
structure Tub (st : Store) (t : Nat) (m : Nat) : Prop where
  wf : st.cs.length = st.length
  at_ : ∃ a b c : Int, st[t]? = some (.lst [.int a, .int b, .int c]) ∧ 0 ≤ a ∧ 0 ≤ c ∧ c + m < 1000000000
/-- the store has only grown, but for the cell t -/
structure Grow (t : Nat) (st st' : Store) : Prop where
  len : st.length ≤ st'.length
  old : ∀ n, n < st.length → n ≠ t → st'[n]? = st[n]?
theorem Grow.refl {t : Nat} {st : Store} : Grow t st st := ⟨Nat.le_refl _, fun _ _ _ => rfl⟩
theorem Grow.trans {t : Nat} {a b c : Store} (h : Grow t a b) (g : Grow t b c) : Grow t a c := ⟨Nat.le_trans h.len g.len, fun n hn ht => (g.old n (Nat.lt_of_lt_of_le hn h.len) ht).trans (h.old n hn ht)⟩
theorem Grow.set {t : Nat} {st : Store} {c : Cell} (h : t < st.length) : Grow t st (st.set t c) := ⟨Nat.le_refl _, fun n _ ht => st_set_ne (Ne.symm ht) h⟩
theorem Grow.push {t : Nat} {st : Store} {c : Cell} : Grow t st (st.push c) := ⟨Nat.le_succ _, fun n hn _ => st_push_lt hn⟩
theorem wf_set {st : Store} {t : Nat} {c : Cell} (wf : st.cs.length = st.length) : (st.set t c).cs.length = (st.set t c).length := by
  show (setC st.cs _ c).length = st.length
  rw [setC_len, wf]
theorem wf_push {st : Store} {c : Cell} (wf : st.cs.length = st.length) : (st.push c).cs.length = (st.push c).length := by
  show (c :: st.cs).length = st.length + 1
  rw [List.length_cons, wf]
theorem Tub.push {st : Store} {t m : Nat} {c : Cell} (h : Tub st t m) : Tub (st.push c) t m := by
  obtain ⟨wf, a, b, c', e, r⟩ := h
  exact ⟨wf_push wf, a, b, c', (st_push_lt (st_lt e)).trans e, r⟩
theorem take_ok {st : Store} {t m : Nat} {n : Int} (T : Tub st t (m + 1)) (hn : 0 < n) (hn2 : n < 1073741824) : ∃ r st', f__law_take [.ref t, .int n] st = .ok (.int r) st' ∧ 0 ≤ r ∧ r < n ∧ Tub st' t m ∧ Grow t st st' ∧ st'.length = st.length := by
  obtain ⟨wf, a, b, c, h, h1, h2, h3⟩ := T
  by_cases ha : 0 < a
  · refine ⟨_, _, take_a wf h ha hn hn2, Int.emod_nonneg _ (by omega), Int.emod_lt_of_pos _ hn, ⟨wf_set wf, a / n, b, c, st_set_self wf (st_lt h), Int.ediv_nonneg (by omega) (by omega), h2, by omega⟩, Grow.set (st_lt h), rfl⟩
  · refine ⟨_, _, take_b wf h ha h2 (by omega) hn, Int.emod_nonneg _ (by omega), Int.emod_lt_of_pos _ hn, ⟨wf_set wf, a, b, c + 1, st_set_self wf (st_lt h), h1, by omega, by omega⟩, Grow.set (st_lt h), rfl⟩
end K00
set_option Elab.async false
set_option linter.all false
set_option maxRecDepth 100000
set_option maxHeartbeats 1000000
namespace K00
open PySem PySem.Spec PyProof.Rows L2 Dp
theorem box_ok {st : Store} {l k : Nat} {ns : List Int} (wf : st.cs.length = st.length) (h : st[l]? = some (.lst (ns.map .int))) (hk : k < ns.length) : ∃ st', f__law_box [.ref l, .int k] st = .ok (.ref st.length) st' ∧ Tub st' st.length 1000000 ∧ Grow st.length st st' ∧ st'.length = st.length + 1 := by
  have m1 : ∀ z w : Int, mulOk z (if 1000000000000000000 ≤ w then 1 else 0) = true := fun z w => by by_cases q : 1000000000000000000 ≤ w <;> simp [mulOk, q]
  have m2 : mulOk 39373 (k : Int) = true := by unfold mulOk; simp
  have e : f__law_box [.ref l, .int k] st = .ok (.ref st.length) (st.push (.lst [.int ((if ns[k] < 0 then -ns[k] else ns[k]) * (if 1000000000000000000 ≤ (if ns[k] < 0 then -ns[k] else ns[k]) then 1 else 0)), .int (ns[k] % 2305843009213693951 + 39373 * k + 92800), .int 0])) := by
    simp [f__law_box, runF, b_law_box, startD, sSeq, sIf, asB, mCmp, mIx, mSlot, mC, Out.bind, ixOp, ixL, h, L2.atI, L2.ixN, cmpOp, sAsg, mBin, binOp, mCallB, callOp, mCons, mNil, bindTg, sRet, sNil, mIf, itemsOf, Cell.items, hk, m1, m2, mLst, big]
  refine ⟨_, e, ⟨wf_push wf, _, _, _, st_push_eq, ?_, by omega, by omega⟩, Grow.push, rfl⟩
  generalize hy0 : (if ns[k] < 0 then -ns[k] else ns[k]) = y
  have hy : 0 ≤ y := by rw [← hy0]; split <;> omega
  by_cases q : 1000000000000000000 ≤ y
  · rw [if_pos q, Int.mul_one]; exact hy
  · rw [if_neg q, Int.mul_zero]; exact Int.le_refl _
end K00
namespace K00
open PySem PySem.Spec PyProof.Rows L2 Dp
/-- a loop over what is fixed at its start, by an invariant -/
theorem for_fix {t : Tg} {body : StM} {ds : List D} (Iv : Nat → Slt → Store → Prop) (step : ∀ i d env st, ds[i]? = some d → Iv i env st → ∃ env2, bindTg t d env st = some env2 ∧ ∃ env3 st3, body env2 st = .ok (.nx env3) st3 ∧ Iv (i + 1) env3 st3) :
    ∀ (m i : Nat) (env : Slt) (st : Store), i ≤ ds.length → ds.length < m + i → Iv i env st → ∃ env' st', forLoop (.fix ds) t body m i env st = .ok (.nx env') st' ∧ Iv ds.length env' st'
  | 0, i, env, st, h1, h2, _ => absurd h2 (by omega)
  | m + 1, i, env, st, h1, h2, hI => by
    unfold forLoop
    have g : Src.good st (.fix ds) i = true := rfl
    have e0 : Src.at st (.fix ds) i = ds[i]? := rfl
    rw [g, e0]
    dsimp only
    cases hd : ds[i]? with
    | none =>
      have : i = ds.length := by have := List.getElem?_eq_none_iff.mp hd; omega
      subst this
      exact ⟨env, st, rfl, hI⟩
    | some d =>
      obtain ⟨env2, e1, env3, st3, e2, hI'⟩ := step i d env st hd hI
      have hlt := (List.getElem?_eq_some_iff.mp hd).1
      obtain ⟨env', st', e3, hI''⟩ := for_fix Iv step m (i + 1) env3 st3 hlt (by omega) hI'
      refine ⟨env', st', ?_, hI''⟩
      simp only [e1, e2, Out.bind]
      exact e3
end K00
set_option Elab.async false
set_option linter.all false
set_option maxRecDepth 100000
set_option maxHeartbeats 2000000
namespace K00
open PySem PySem.Spec PyProof.Rows L2 Dp
theorem perm_erase {α : Type} : ∀ {l : List α} {k : Nat} (h : k < l.length), (l[k] :: l.eraseIdx k).Perm l
  | [], _, h => absurd h (Nat.not_lt_zero _)
  | a :: l, 0, _ => List.Perm.refl _
  | a :: l, k + 1, h => by
    have h' : k < l.length := Nat.lt_of_succ_lt_succ h
    show (l[k] :: a :: l.eraseIdx k).Perm (a :: l)
    exact (List.Perm.swap a l[k] (l.eraseIdx k)).trans ((perm_erase h').cons a)
/-- one turn of the pick -/
theorem pick_turn {s : Store} {t L F m : Nat} {rest fs : List D} {a1 a2 a3 : Option D} (T : Tub s t (m + 1)) (hL : s[L]? = some (.lst rest)) (hF : s[F]? = some (.lst fs)) (hLF : L ≠ F) (htL : t ≠ L) (htF : t ≠ F) (hr : 0 < rest.length) (hb : rest.length ≤ 1000) (hf : fs.length ≤ 1000) :
    ∃ d rest' s', (sDrop (mMeth .append (mSlot 5) (mCons (mMeth .pop (mSlot 4) (mCons (mCall 2 f__law_take (mCons (mSlot 0) (mCons (mCallB .len (mCons (mSlot 4) mNil)) mNil))) mNil)) mNil))) [some (.ref t), a1, a2, a3, some (.ref L), some (.ref F)] s = .ok (.nx [some (.ref t), a1, a2, a3, some (.ref L), some (.ref F)]) s' ∧
      (d :: rest').Perm rest ∧ s'[L]? = some (.lst rest') ∧ s'[F]? = some (.lst (fs ++ [d])) ∧ Tub s' t m ∧ s'.length = s.length ∧ (∀ n, n ≠ t → n ≠ L → n ≠ F → s'[n]? = s[n]?) := by
  obtain ⟨r, s1, e1, r0, r1, T1, G1, l1⟩ := take_ok T (n := (rest.length : Nat)) (by omega) (by omega)
  have hLl := st_lt hL
  have hFl := st_lt hF
  have hL1 : s1[L]? = some (.lst rest) := (G1.old L hLl (Ne.symm htL)).trans hL
  have hF1 : s1[F]? = some (.lst fs) := (G1.old F hFl (Ne.symm htF)).trans hF
  have hj : r.toNat < rest.length := by omega
  have hix : L2.ixN rest.length r = some r.toNat := by
    unfold L2.ixN
    rw [if_pos r0, if_pos r1]
  have wf1 := T1.wf
  have wf2 : (s1.set L (.lst (rest.eraseIdx r.toNat))).cs.length = (s1.set L (.lst (rest.eraseIdx r.toNat))).length := wf_set wf1
  have hF2 : (s1.set L (.lst (rest.eraseIdx r.toNat)))[F]? = some (.lst fs) := (st_set_ne hLF (by omega)).trans hF1
  refine ⟨rest[r.toNat], rest.eraseIdx r.toNat, (s1.set L (.lst (rest.eraseIdx r.toNat))).set F (.lst (fs ++ [rest[r.toNat]])), ?_, ?_, ?_, ?_, ?_, ?_, ?_⟩
  · have hd : rest[r.toNat]? = some rest[r.toNat] := List.getElem?_eq_getElem hj
    have hsq : seqIndex? r rest.length = some r.toNat := PySem.StrLaws.seqIndex_nonneg r0 r1
    have g1 : -9223372036854775808 ≤ r := by omega
    have g2 : r < 9223372036854775808 := by omega
    simp [hsq, g1, g2, sDrop, mMeth, mSlot, mCons, mCall, mCallB, mNil, Out.bind, meTy, meOp, callOp, itemsOf, Cell.items, hL, hF, hL1, hF1, hF2, e1, hix, hd, big, show fs.length < 100000 by omega]
  · exact perm_erase hj
  · exact (st_set_ne (Ne.symm hLF) (by show F < s1.length; omega)).trans (st_set_self wf1 (by omega))
  · exact st_set_self wf2 (by show F < s1.length; omega)
  · obtain ⟨wf, a, b, c, e, x⟩ := T1
    refine ⟨wf_set wf2, a, b, c, ?_, x⟩
    rw [st_set_ne (Ne.symm htF) (by show F < s1.length; omega), st_set_ne (Ne.symm htL) (by omega)]
    exact e
  · exact l1
  · intro n h1 h2 h3
    rw [st_set_ne (Ne.symm h3) (by show F < s1.length; omega), st_set_ne (Ne.symm h2) (by omega)]
    by_cases hn : n < s.length
    · exact G1.old n hn h1
    · have key : ∀ z : Store, z.length = s.length → z[n]? = none := fun z e => by
        cases q : z[n]? with
        | none => rfl
        | some c => exact absurd (e ▸ st_lt q) hn
      rw [key s1 l1, key s rfl]
end K00
set_option Elab.async false
set_option linter.all false
set_option maxRecDepth 100000
set_option maxHeartbeats 2000000
namespace K00
open PySem PySem.Spec PyProof.Rows L2 Dp
def pickBody : StM := sDrop (mMeth .append (mSlot 5) (mCons (mMeth .pop (mSlot 4) (mCons (mCall 2 f__law_take (mCons (mSlot 0) (mCons (mCallB .len (mCons (mSlot 4) mNil)) mNil))) mNil)) mNil))
theorem pick_ok {st : Store} {t l m much : Nat} {ds : List D} (T : Tub st t (m + much)) (hl : st[l]? = some (.lst ds)) (htl : t ≠ l) (hb : ds.length ≤ 1000) (hm : much ≤ 1000) :
    ∃ fs rest st', f__law_pick [.ref t, .ref l, .int much] st = .ok (.ref (st.length + 1)) st' ∧ (fs ++ rest).Perm ds ∧ fs.length = min much ds.length ∧ st'[st.length + 1]? = some (.lst fs) ∧ Tub st' t m ∧ Grow t st st' ∧ st'.length = st.length + 2 := by
  have tl : t < st.length := by obtain ⟨_, _, _, e, _⟩ := T.at_; exact st_lt e
  let st0 := (st.push (.lst ds)).push (.lst [])
  let env0 : Slt := [some (.ref t), some (.ref l), some (.int much), none, some (.ref st.length), some (.ref (st.length + 1))]
  let q : Nat := min much ds.length
  let src : List D := (List.range q).map fun i => D.int (i : Nat)
  have hsl : src.length = q := by simp [src]
  let Iv : Nat → Slt → Store → Prop := fun i env s => i ≤ q ∧ ∃ x3 fs rest, env = [some (.ref t), some (.ref l), some (.int much), x3, some (.ref st.length), some (.ref (st.length + 1))] ∧ s[st.length]? = some (.lst rest) ∧ s[st.length + 1]? = some (.lst fs) ∧ (fs ++ rest).Perm ds ∧ fs.length = i ∧ Tub s t (m + (much - i)) ∧ s.length = st.length + 2 ∧ ∀ n, n < st.length → n ≠ t → s[n]? = st[n]?
  have h0 : Iv 0 env0 st0 := ⟨Nat.zero_le _, none, [], ds, rfl, (st_push_lt (by show st.length < st.length + 1; omega)).trans st_push_eq, st_push_eq, by simp, rfl, (T.push).push, rfl, fun n hn _ => (st_push_lt (by show n < st.length + 1; omega)).trans (st_push_lt hn)⟩
  have step : ∀ i d env s, src[i]? = some d → Iv i env s → ∃ env2, bindTg (.one 3) d env s = some env2 ∧ ∃ env3 s3, pickBody env2 s = .ok (.nx env3) s3 ∧ Iv (i + 1) env3 s3 := by
    intro i d env s hd ⟨hi, x3, fs, rest, he, hL, hF, hp, hf, hT, hs, ho⟩
    subst he
    have hlt : i < q := by rw [← hsl]; exact (List.getElem?_eq_some_iff.mp hd).1
    have hq1 : q ≤ much := Nat.min_le_left _ _
    have hq2 : q ≤ ds.length := Nat.min_le_right _ _
    have hlen : fs.length + rest.length = ds.length := by rw [← List.length_append]; exact hp.length_eq
    have e0 : m + (much - i) = (m + (much - (i + 1))) + 1 := by omega
    rw [e0] at hT
    obtain ⟨d', rest', s', e1, p1, f1, f2, T', l', o'⟩ := pick_turn (a1 := some (.ref l)) (a2 := some (.int much)) (a3 := some d) hT hL hF (by omega) (by omega) (by omega) (by omega) (by omega) (by omega)
    refine ⟨_, rfl, _, s', e1, hlt, some d, fs ++ [d'], rest', rfl, f1, f2, ?_, by rw [List.length_append, hf]; rfl, T', l'.trans hs, fun n hn ht => (o' n ht (by omega) (by omega)).trans (ho n hn ht)⟩
    rw [List.append_assoc]
    exact (p1.append_left fs).trans hp
  obtain ⟨env', st', e3, hq, x3, fs, rest, he, hL, hF, hp, hf, hT, hs, ho⟩ := for_fix Iv step turns 0 env0 st0 (Nat.zero_le _) (by rw [hsl]; show min much ds.length < 2000 + 0; omega) h0
  refine ⟨fs, rest, st', ?_, hp, hf.trans hsl, hF, ?_, ⟨by omega, ho⟩, hs⟩
  · subst he
    have hmin : (if (ds.length : Int) < (much : Int) then (ds.length : Int) else (much : Int)) = ((q : Nat) : Int) := by
      show _ = ((min much ds.length : Nat) : Int)
      split <;> omega
    have hmin2 : (if ds.length < much then (ds.length : Int) else (much : Int)) = ((q : Nat) : Int) := by
      show _ = ((min much ds.length : Nat) : Int)
      split <;> omega
    have hq3 : q ≤ 1000 := by show min much ds.length ≤ 1000; omega
    have hLn : (st.push (.lst ds))[st.length]? = some (.lst ds) := st_push_eq
    have hL0 : st0[st.length]? = some (.lst ds) := (st_push_lt (by show st.length < st.length + 1; omega)).trans st_push_eq
    have key : f__law_pick [.ref t, .ref l, .int much] st = (match ((forLoop (.fix src) (.one 3) pickBody turns 0 env0 st0).bind fun f s1 => match f with
        | .nx env1 => sRet (mSlot 5) env1 s1
        | f => .ok f s1) with
      | .ok (.rt d) s => .ok d s
      | .ok (.nx _) s => .ok .non s
      | .exn c fs s => .exn c fs s
      | _ => .bad) := by
      have hg : (-1000 : Int) ≤ ((q : Nat) : Int) ∧ ((q : Nat) : Int) ≤ big := ⟨by omega, by show ((q : Nat) : Int) ≤ 100000; omega⟩
      have hci : (Cell.lst ds).items = some ds := rfl
      have hg1 : (-1000 : Int) ≤ ((q : Nat) : Int) := hg.1
      have hg2 : ((q : Nat) : Int) ≤ 100000 := hg.2
      have hL0' : ((st.push (.lst ds)).push (.lst []))[st.length]? = some (.lst ds) := hL0
      have hpl : (st.push (.lst ds)).length = st.length + 1 := rfl
      simp [f__law_pick, runF, b_law_pick, sSeq, sPar, mCons, mCallB, mSlot, mNil, mLst, callOp, itemsOf, sFor, mRange, Out.bind, startD, setAll, hl, hci, hL0', hLn, hmin, hmin2, hg1, hg2, hpl, big, pickBody, src, env0, st0]
      all_goals rfl
    rw [key, e3]
    rfl
  · have : m + (much - src.length) = m + (much - q) := by rw [hsl]
    obtain ⟨w, a, b, c, e, x1, x2, x3'⟩ := hT
    exact ⟨w, a, b, c, e, x1, x2, by omega⟩
end K00
set_option Elab.async false
set_option linter.all false
set_option maxRecDepth 100000
set_option maxHeartbeats 2000000
/-! Wp: what an answer must be like, step by step. -/
namespace Dp
open PySem PySem.Spec PyProof.Rows L2
def wp {α : Type} (o : Out α) (Q : α → Store → Prop) : Prop := match o with
  | .ok a s => Q a s
  | _ => False
section
variable {α β : Type} {o o' : Out α} {Q P : α → Store → Prop} {a : α} {s st : Store}
theorem wp_congr (h : o = o') : wp o Q = wp o' Q := by rw [h]
theorem bind_congr {k : α → Store → Out β} (h : o = o') : o.bind k = o'.bind k := by rw [h]
@[simp] theorem wp_ok : wp (.ok a s) Q = Q a s := rfl
@[simp] theorem ok_bind {k : α → Store → Out β} : (Out.ok a s).bind k = k a s := rfl
@[simp] theorem wp_bind {k : α → Store → Out β} {Q : β → Store → Prop} : wp (o.bind k) Q = wp o (fun a s => wp (k a s) Q) := by cases o <;> rfl
theorem wp_mono (h : wp o P) (hq : ∀ a s, P a s → Q a s) : wp o Q := by
  cases o with
  | ok a s => exact hq a s h
  | _ => exact h
theorem wp_ex (h : wp o Q) : ∃ a s, o = .ok a s ∧ Q a s := by
  cases o with
  | ok a s => exact ⟨a, s, rfl, h⟩
  | _ => exact h.elim
end
@[simp] theorem wp_run {np nN : Nat} {body : StM} {ds : List D} {st : Store} {Q : D → Store → Prop} (h : ds.length = np) :
    wp (runF np nN body ds st) Q = wp (body (startD nN ds) st) (fun f s => match f with | .rt d => Q d s | .nx _ => Q .non s | _ => False) := by
  unfold runF
  rw [if_pos h]
  cases body (startD nN ds) st with
  | bad => rfl
  | exn c fs s => rfl
  | ok f s => cases f <;> rfl
section
variable {env : Slt} {st : Store} {a b c : EM} {p q r : BM} {l : AM} {x y : StM}
@[simp] theorem mC_eq {d : D} : mC d env st = .ok d st := rfl
@[simp] theorem mSlot_eq {i : Nat} {d : D} (h : env[i]? = some (some d)) : mSlot i env st = .ok d st := by unfold mSlot; rw [h]
@[simp] theorem mBin_eq {op : Operator} : mBin op a b env st = (a env st).bind fun x s1 => (b env s1).bind fun y s2 => binOp op x y s2 := rfl
@[simp] theorem mUn_eq {op : UnaryOp} : mUn op a env st = (a env st).bind fun x s1 => unOp op x s1 := rfl
@[simp] theorem mCmp_eq {op : CmpOp} : mCmp op a b env st = (a env st).bind fun x s1 => (b env s1).bind fun y s2 => cmpOp op x y s2 := rfl
@[simp] theorem mChain_eq {op op' : CmpOp} : mChain op op' a b c env st = (a env st).bind fun x s1 => (b env s1).bind fun y s2 => (cmpOp op x y s2).bind fun z s3 => match z with
  | .bl true => (c env s3).bind fun w s4 => cmpOp op' y w s4
  | .bl false => .ok (.bl false) s3
  | _ => .bad := rfl
@[simp] theorem asB_eq : asB a env st = (a env st).bind fun x s1 => match x with
  | .bl b => .ok b s1
  | _ => .bad := rfl
@[simp] theorem mTru_eq : mTru a env st = (a env st).bind fun x s1 => match truD s1 x with
  | some b => .ok b s1
  | none => .bad := rfl
@[simp] theorem mNotB_eq : mNotB p env st = (p env st).bind fun x s1 => .ok (!x) s1 := rfl
@[simp] theorem mAndB_eq : mAndB p q env st = (p env st).bind fun x s1 => match x with
  | true => q env s1
  | false => .ok false s1 := rfl
@[simp] theorem mOrB_eq : mOrB p q env st = (p env st).bind fun x s1 => match x with
  | true => .ok true s1
  | false => q env s1 := rfl
@[simp] theorem mIfB_eq : mIfB p q r env st = (p env st).bind fun x s1 => match x with
  | true => q env s1
  | false => r env s1 := rfl
@[simp] theorem mNot_eq : mNot a env st = (a env st).bind fun x s1 => match truD s1 x with
  | some b => .ok (.bl (!b)) s1
  | none => .bad := rfl
@[simp] theorem mAnd_eq : mAnd a b env st = (a env st).bind fun x s1 => match truD s1 x with
  | some true => b env s1
  | some false => .ok x s1
  | none => .bad := rfl
@[simp] theorem mOr_eq : mOr a b env st = (a env st).bind fun x s1 => match truD s1 x with
  | some true => .ok x s1
  | some false => b env s1
  | none => .bad := rfl
@[simp] theorem mIf_eq : mIf p a b env st = (p env st).bind fun x s1 => match x with
  | true => a env s1
  | false => b env s1 := rfl
@[simp] theorem mNil_eq : mNil env st = .ok [] st := rfl
@[simp] theorem mCons_eq : mCons a l env st = (a env st).bind fun x s1 => (l env s1).bind fun xs s2 => .ok (x :: xs) s2 := rfl
@[simp] theorem mStar_eq : mStar a l env st = (a env st).bind fun x s1 => match itemsOf s1 x with
  | some ds => (l env s1).bind fun xs s2 => .ok (ds ++ xs) s2
  | none => .bad := rfl
@[simp] theorem mTup_eq : mTup l env st = (l env st).bind fun xs s1 => if xs.length ≤ big then .ok (.tup xs) s1 else .bad := rfl
@[simp] theorem mLst_eq : mLst l env st = (l env st).bind fun xs s1 => if xs.length ≤ big then .ok (.ref s1.length) (s1.push (.lst xs)) else .bad := rfl
@[simp] theorem mIx_eq : mIx a b env st = (a env st).bind fun x s1 => (b env s1).bind fun y s2 => ixOp x y s2 := rfl
@[simp] theorem mPart_eq : mPart a env st = (a env st).bind fun x s1 => match x with
  | .int i => .ok (some i) s1
  | _ => .bad := rfl
@[simp] theorem mNoPart_eq : mNoPart env st = .ok none st := rfl
@[simp] theorem mSl_eq {u v : OM} : mSl a u v env st = (a env st).bind fun x s1 => (u env s1).bind fun lo s2 => (v env s2).bind fun hi s3 => slOp x lo hi s3 := rfl
@[simp] theorem mCallB_eq {f : Bi} : mCallB f l env st = (l env st).bind fun xs s1 => callOp f xs s1 := rfl
@[simp] theorem mMeth_eq {f : Me} : mMeth f a l env st = (a env st).bind fun x s1 => if meTy f x s1 then (l env s1).bind fun xs s2 => meOp f x xs s2 else .bad := rfl
@[simp] theorem mCall_eq {n : Nat} {cl : List D → Store → Out D} : mCall n cl l env st = (l env st).bind fun ds s1 => if ds.length = n then cl ds s1 else .bad := rfl
@[simp] theorem mSrc_eq : mSrc a env st = (a env st).bind srcOf := rfl
@[simp] theorem mRange_eq : mRange l env st = (l env st).bind fun xs s1 => match xs with
  | [.int j] => if -1000 ≤ j ∧ j ≤ big then .ok (.fix ((List.range j.toNat).map fun i => D.int (i : Nat))) s1 else .bad
  | _ => .bad := rfl
@[simp] theorem mEnum_eq : mEnum l env st = (l env st).bind fun xs s1 => match xs with
  | [.ref n] => match (s1[n]?).bind Cell.items with
    | some _ => .ok (.enum n) s1
    | none => .bad
  | _ => .bad := rfl
@[simp] theorem mZip_eq : mZip l env st = (l env st).bind fun xs s1 => match xs with
  | [x, y] => match sdOf s1 x, sdOf s1 y with
    | some a, some b => match a.size s1, b.size s1 with
      | some n, some m => .ok (.zipm n m a b) s1
      | _, _ => .bad
    | _, _ => .bad
  | _ => .bad := rfl
@[simp] theorem mLc_eq {src : SM} {vs : List Nat} {t : Tg} {tst : BM} {elt : EM} : mLc src vs t tst elt env st = (src env st).bind fun s st1 =>
  lcLoop st1.length s (fun d st => bindTg t d (wipeD env vs) st) tst elt turns 0 (st1.push (.lst [])) := rfl
@[simp] theorem mDc_eq {src : SM} {vs : List Nat} {t : Tg} {tst : BM} {key elt : EM} : mDc src vs t tst key elt env st = (src env st).bind fun s st1 =>
  dcLoop st1.length s (fun d st => bindTg t d (wipeD env vs) st) tst key elt turns 0 (st1.push (.dct [])) := rfl
@[simp] theorem mYes_eq : K00.mYes env st = .ok true st := rfl
@[simp] theorem sNil_eq : sNil env st = .ok (.nx env) st := rfl
@[simp] theorem sSeq_eq : sSeq x y env st = (x env st).bind fun f s1 => match f with
  | .nx env1 => y env1 s1
  | f => .ok f s1 := rfl
@[simp] theorem sAsg_eq {t : Tg} : sAsg t a env st = (a env st).bind fun d s1 => match bindTg t d env s1 with
  | some env' => .ok (.nx env') s1
  | none => .bad := rfl
@[simp] theorem sPar_eq {is : List Nat} : sPar is l env st = (l env st).bind fun ds s1 => if ds.length = is.length then .ok (.nx (setAll env is ds)) s1 else .bad := rfl
@[simp] theorem sRet_eq : sRet a env st = (a env st).bind fun d s1 => .ok (.rt d) s1 := rfl
@[simp] theorem sRetN_eq : sRetN env st = .ok (.rt .non) st := rfl
@[simp] theorem sIf_eq : sIf p x y env st = (p env st).bind fun b s1 => match b with
  | true => x env s1
  | false => y env s1 := rfl
@[simp] theorem sDrop_eq : sDrop a env st = (a env st).bind fun _ s1 => .ok (.nx env) s1 := rfl
@[simp] theorem sSub_eq : sSub a b c env st = (a env st).bind fun v s1 => (b env s1).bind fun x s2 => (c env s2).bind fun y s3 => match setOp x y v s3 with
  | some s4 => .ok (.nx env) s4
  | none => .bad := rfl
@[simp] theorem sFor_eq {src : SM} {t : Tg} : sFor src t x env st = (src env st).bind fun s s1 => forLoop s t x turns 0 env s1 := rfl
end
/-- the store has only grown -/
structure Gr (st s : Store) : Prop where
  wf : s.cs.length = s.length
  len : st.length ≤ s.length
  old : ∀ n, n < st.length → s[n]? = st[n]?
section
variable {st s u : Store} {n : Nat} {c : Cell}
theorem Gr.refl (wf : st.cs.length = st.length) : Gr st st := ⟨wf, Nat.le_refl _, fun _ _ => rfl⟩
theorem Gr.trans (h : Gr st s) (g : Gr s u) : Gr st u := ⟨g.wf, Nat.le_trans h.len g.len, fun n hn => (g.old n (Nat.lt_of_lt_of_le hn h.len)).trans (h.old n hn)⟩
theorem Gr.get (h : Gr st s) (e : st[n]? = some c) : s[n]? = some c := (h.old n (st_lt e)).trans e
theorem wfPush (wf : st.cs.length = st.length) : (st.push c).cs.length = (st.push c).length := by
  show (c :: st.cs).length = st.length + 1
  rw [List.length_cons, wf]
theorem wfSet (wf : st.cs.length = st.length) : (st.set n c).cs.length = (st.set n c).length := by
  show (setC st.cs _ c).length = st.length
  rw [setC_len, wf]
theorem Gr.push (wf : st.cs.length = st.length) : Gr st (st.push c) := ⟨wfPush wf, Nat.le_succ _, fun _ hn => st_push_lt hn⟩
theorem Gr.set (h : Gr st s) (hn : st.length ≤ n) (hs : n < s.length) : Gr st (s.set n c) := ⟨wfSet h.wf, h.len, fun m hm => (st_set_ne (by omega) hs).trans (h.old m hm)⟩
end
/-- a list's comprehension that only builds -/
theorem wp_lc {st : Store} {src : Src} {bt : D → Store → Option Slt} {tst : BM} {elt : EM} {Q : D → Store → Prop} (wf : st.cs.length = st.length) (ds : List D) (p : D → Bool) (f : D → D)
    (hl : ds.length < 1000) (hg : ∀ s i, Gr st s → src.good s i = true ∧ src.at s i = ds[i]?)
    (step : ∀ d ∈ ds, ∀ s, Gr st s → ∃ env2, bt d s = some env2 ∧ wp (tst env2 s) fun b s2 => b = p d ∧ Gr s s2 ∧ (p d = true → wp (elt env2 s2) fun y s3 => y = f d ∧ Gr s s3))
    (hQ : ∀ s, Gr st s → s[st.length]? = some (.lst ((ds.filter p).map f)) → Q (.ref st.length) s) :
    wp (lcLoop st.length src bt tst elt turns 0 (st.push (.lst []))) Q := by
  have key : ∀ (m i : Nat) (s : Store), i ≤ ds.length → ds.length < m + i → Gr st s → s[st.length]? = some (.lst (((ds.take i).filter p).map f)) → wp (lcLoop st.length src bt tst elt m i s) Q := by
    intro m
    induction m with
    | zero => intro i s h1 h2; omega
    | succ m ih =>
      intro i s h1 h2 hG hc
      unfold lcLoop
      rw [(hg s i hG).1, (hg s i hG).2]
      dsimp only
      cases hd : ds[i]? with
      | none =>
        have : i = ds.length := by have := List.getElem?_eq_none_iff.mp hd; omega
        subst this
        rw [List.take_length] at hc
        exact hQ s hG hc
      | some d =>
        have hi : i < ds.length := (List.getElem?_eq_some_iff.mp hd).1
        have hdi : ds[i] = d := (List.getElem?_eq_some_iff.mp hd).2
        obtain ⟨env2, e1, hw⟩ := step d (List.mem_of_getElem? hd) s hG
        obtain ⟨b, s2, e2, hb, g2, hw2⟩ := wp_ex hw
        have htk : ds.take (i + 1) = ds.take i ++ [d] := by rw [List.take_succ, hd]; rfl
        dsimp only
        rw [e1]
        dsimp only
        rw [e2]
        show wp (Out.bind (Out.ok b s2) _) Q
        rw [ok_bind]
        cases hpd : p d with
        | false =>
          rw [hb, hpd]
          dsimp only
          refine ih (i + 1) s2 (by omega) (by omega) (hG.trans g2) ?_
          rw [htk, List.filter_append, show [d].filter p = [] by simp [hpd], List.append_nil]
          exact g2.get hc
        | true =>
          obtain ⟨y, s3, e3, hy, g3⟩ := wp_ex (hw2 hpd)
          rw [hb, hpd]
          dsimp only
          rw [e3]
          show wp (Out.bind (Out.ok y s3) _) Q
          rw [ok_bind]
          have hc3 := g3.get hc
          rw [hc3]
          have hlen : (((ds.take i).filter p).map f).length ≤ ds.length := by
            rw [List.length_map]
            exact Nat.le_trans (List.length_filter_le _ _) (by rw [List.length_take]; omega)
          dsimp only
          rw [if_pos (show _ < big by show _ < 100000; omega)]
          have hs3 : st.length < s3.length := st_lt hc3
          refine ih (i + 1) _ (by omega) (by omega) ((hG.trans g3).set (Nat.le_refl _) hs3) ?_
          rw [htk, List.filter_append, show [d].filter p = [d] by simp [hpd], List.map_append, hy]
          exact st_set_self (hG.trans g3).wf hs3
  exact key turns 0 _ (Nat.zero_le _) (show ds.length < 2000 + 0 by omega) (Gr.push wf) st_push_eq
/-- a loop, by an invariant -/
theorem wp_for {src : Src} {t : Tg} {body : StM} {env : Slt} {st : Store} {Q : Fl → Store → Prop} (ds : List D) (Iv : Nat → Slt → Store → Prop) (hl : ds.length < 1000)
    (hg : ∀ i e s, Iv i e s → src.good s i = true ∧ src.at s i = ds[i]?) (h0 : Iv 0 env st)
    (step : ∀ i d e s, ds[i]? = some d → Iv i e s → ∃ e2, bindTg t d e s = some e2 ∧ wp (body e2 s) fun f s2 => match f with
      | .nx e3 => Iv (i + 1) e3 s2
      | .rt d => Q (.rt d) s2
      | _ => False)
    (hQ : ∀ e s, Iv ds.length e s → Q (.nx e) s) : wp (forLoop src t body turns 0 env st) Q := by
  have key : ∀ (m i : Nat) (e : Slt) (s : Store), i ≤ ds.length → ds.length < m + i → Iv i e s → wp (forLoop src t body m i e s) Q := by
    intro m
    induction m with
    | zero => intro i e s h1 h2; omega
    | succ m ih =>
      intro i e s h1 h2 hI
      unfold forLoop
      rw [(hg i e s hI).1, (hg i e s hI).2]
      dsimp only
      cases hd : ds[i]? with
      | none =>
        have : i = ds.length := by have := List.getElem?_eq_none_iff.mp hd; omega
        subst this
        exact hQ e s hI
      | some d =>
        have hi : i < ds.length := (List.getElem?_eq_some_iff.mp hd).1
        obtain ⟨e2, h3, hw⟩ := step i d e s hd hI
        obtain ⟨f, s2, h4, hf⟩ := wp_ex hw
        dsimp only
        rw [h3]
        dsimp only
        rw [h4, ok_bind]
        cases f with
        | nx e3 => exact ih (i + 1) e3 s2 (by omega) (by omega) hf
        | rt d => exact hf
        | bk e3 => exact hf.elim
        | ct e3 => exact hf.elim
  exact key turns 0 env st (Nat.zero_le _) (show ds.length < 2000 + 0 by omega) h0
end Dp
set_option Elab.async false
set_option linter.all false
set_option maxRecDepth 100000
set_option maxHeartbeats 2000000
namespace Dp
open PySem PySem.Spec PyProof.Rows L2
section
variable {st : Store}
theorem eqv_str (a b : Str) : PyData.eqv (.str a) (.str b) = decide (a = b) := by
  rw [Bool.eq_iff_iff]; simp [PyData.eqv]
theorem eqv_int (a b : Int) : PyData.eqv (.int a) (.int b) = decide (a = b) := by
  rw [Bool.eq_iff_iff]; simp [PyData.eqv]
theorem eqD_str {a b : Str} (ha : PyData.strOk a = true) (hb : PyData.strOk b = true) : eqD (.str a) (.str b) st = some (decide (a = b)) := by simp [eqD, deep, pyOf, SeqAt.shaped, PyData.canLay0, PyData.depth, ha, hb, eqv_str]
theorem eqD_int (a b : Int) : eqD (.int a) (.int b) st = some (decide (a = b)) := by simp [eqD, deep, pyOf, SeqAt.shaped, PyData.canLay0, PyData.depth, eqv_int]
theorem eqD_bl (a b : Bool) : eqD (.bl a) (.bl b) st = some (a == b) := by cases a <;> cases b <;> simp [eqD, deep, pyOf, SeqAt.shaped, PyData.eqv, PyData.canLay0, PyData.depth]
end

section
variable {st : Store} {n : Nat} {ds : List D} {d : D}
@[simp] theorem items_lst : (Cell.lst ds).items = some ds := rfl
@[simp] theorem items_frz : (Cell.frz ds).items = some ds := rfl
@[simp] theorem items_tup : itemsOf st (.tup ds) = some ds := rfl
@[simp] theorem items_ref (h : st[n]? = some (.lst ds)) : itemsOf st (.ref n) = some ds := by simp [itemsOf, h]
@[simp] theorem len_tup : callOp .len [.tup ds] st = .ok (.int ds.length) st := rfl
@[simp] theorem len_ref (h : st[n]? = some (.lst ds)) : callOp .len [.ref n] st = .ok (.int ds.length) st := by simp [callOp, itemsOf, h]
@[simp] theorem len_str {s : Str} (h : s.length ≤ 100000) : callOp .len [.str s] st = .ok (.int s.length) st := by simp [callOp, big, h]
@[simp] theorem inst_ty {u : Ty} : callOp .isinstance [d, .ty u] st = match tyOf st d with
    | some t => .ok (.bl (isi t u)) st
    | none => .bad := rfl
@[simp] theorem inst_tup {us : List D} : callOp .isinstance [d, .tup us] st = match tyOf st d, tysOf us with
    | some t, some ts => .ok (.bl (ts.any (isi t))) st
    | _, _ => .bad := rfl
@[simp] theorem call_tuple : callOp .tuple [d] st = match itemsOf st d with
    | some ds => .ok (.tup ds) st
    | none => .bad := rfl
@[simp] theorem call_list : callOp .list [d] st = match itemsOf st d with
    | some ds => .ok (.ref st.length) (st.push (.lst ds))
    | none => .bad := rfl
@[simp] theorem call_int {i : Int} : callOp .int [.int i] st = .ok (.int i) st := rfl
@[simp] theorem call_intb {b : Bool} : callOp .int [.bl b] st = .ok (.int (if b then 1 else 0)) st := rfl
@[simp] theorem call_min {i j : Int} : callOp .min [.int i, .int j] st = .ok (.int (if j < i then j else i)) st := rfl
@[simp] theorem call_max {i j : Int} : callOp .max [.int i, .int j] st = .ok (.int (if j > i then j else i)) st := rfl
@[simp] theorem call_abs {i : Int} : callOp .abs [.int i] st = .ok (.int (if i < 0 then -i else i)) st := rfl
theorem filter_tt {α : Type} : ∀ l : List α, l.filter (fun _ => true) = l
  | [] => rfl
  | a :: l => by rw [List.filter_cons_of_pos rfl, filter_tt l]
theorem bools_map (f : D → Bool) : ∀ ds : List D, boolsOf (ds.map fun d => .bl (f d)) = some (ds.map f)
  | [] => rfl
  | d :: ds => by simp [boolsOf, bools_map f ds]
theorem call_all (f : D → Bool) (h : st[n]? = some (.lst (ds.map fun d => .bl (f d)))) : callOp .all [.ref n] st = .ok (.bl (ds.all f)) st := by
  simp [callOp, h, bools_map, List.all_map]
@[simp] theorem src_tup : srcOf (.tup ds) st = .ok (.fix ds) st := rfl
@[simp] theorem src_str {s : Str} : srcOf (.str s) st = .ok (.fix (s.cps.toList.map fun c => D.str ⟨#[c]⟩)) st := rfl
@[simp] theorem src_ref (h : st[n]? = some (.lst ds)) : srcOf (.ref n) st = .ok (.dyn n) st := by simp [srcOf, h]
@[simp] theorem cmp_Eq {x y : D} : cmpOp .Eq x y st = outB (eqD x y st) st := rfl
@[simp] theorem cmp_NotEq {x y : D} : cmpOp .NotEq x y st = outB ((eqD x y st).map (!·)) st := rfl
@[simp] theorem cmp_In {x y : D} : cmpOp .In x y st = outB (isIn x y st) st := rfl
@[simp] theorem cmp_NotIn {x y : D} : cmpOp .NotIn x y st = outB ((isIn x y st).map (!·)) st := rfl
@[simp] theorem cmp_Lt {i j : Int} : cmpOp .Lt (.int i) (.int j) st = .ok (.bl (decide (i < j))) st := rfl
@[simp] theorem cmp_LtS {i j : Str} : cmpOp .Lt (.str i) (.str j) st = .ok (.bl (decide (i.cps.toList < j.cps.toList))) st := rfl
@[simp] theorem cmp_Le {i j : Int} : cmpOp .LtE (.int i) (.int j) st = .ok (.bl (decide (i ≤ j))) st := rfl
@[simp] theorem cmp_Gt {i j : Int} : cmpOp .Gt (.int i) (.int j) st = .ok (.bl (decide (j < i))) st := rfl
@[simp] theorem cmp_Ge {i j : Int} : cmpOp .GtE (.int i) (.int j) st = .ok (.bl (decide (j ≤ i))) st := rfl
@[simp] theorem cmp_Is {x : D} : cmpOp .Is x .non st = .ok (.bl (isNon x)) st := rfl
@[simp] theorem outB_some {b : Bool} : outB (some b) st = .ok (.bl b) st := rfl
@[simp] theorem ty_int {i : Int} : tyOf st (.int i) = some .int := rfl
@[simp] theorem ty_bl {i : Bool} : tyOf st (.bl i) = some .bool := rfl
@[simp] theorem ty_str {i : Str} : tyOf st (.str i) = some .str := rfl
@[simp] theorem ty_tup : tyOf st (.tup ds) = some .tuple := rfl
@[simp] theorem ty_lst (h : st[n]? = some (.lst ds)) : tyOf st (.ref n) = some .list := by simp [tyOf, h]
@[simp] theorem tru_bl {b : Bool} : truD st (.bl b) = some b := rfl
@[simp] theorem tru_int {i : Int} : truD st (.int i) = some (i != 0) := rfl
@[simp] theorem tru_tup : truD st (.tup ds) = some (!ds.isEmpty) := rfl
@[simp] theorem tru_lst (h : st[n]? = some (.lst ds)) : truD st (.ref n) = some (!ds.isEmpty) := by simp [truD, h]
@[simp] theorem fix_good {i : Nat} : (Src.fix ds).good st i = true := rfl
@[simp] theorem fix_at {i : Nat} : (Src.fix ds).at st i = ds[i]? := rfl
@[simp] theorem dyn_good {i : Nat} (h : st[n]? = some (.lst ds)) : (Src.dyn n).good st i = true := by simp [Src.good, h]
@[simp] theorem dyn_at' {i : Nat} (h : st[n]? = some (.lst ds)) : (Src.dyn n).at st i = ds[i]? := by simp [Src.at, h]
@[simp] theorem bind_one {i : Nat} {env : Slt} : bindTg (.one i) d env st = some (env.set i (some d)) := rfl
@[simp] theorem bind_many {is : List Nat} {env : Slt} : bindTg (.many is) d env st = match itemsOf st d with
    | some ds => if ds.length = is.length then some (setAll env is ds) else none
    | none => none := rfl
@[simp] theorem setAll_cons {env : Slt} {i : Nat} {is : List Nat} : setAll env (i :: is) (d :: ds) = setAll (env.set i (some d)) is ds := rfl
@[simp] theorem setAll_nil {env : Slt} {is : List Nat} : setAll env is [] = env := by cases is <;> rfl
@[simp] theorem wipe_nil {env : Slt} : wipeD env [] = env := rfl
@[simp] theorem wipe_cons {env : Slt} {i : Nat} {is : List Nat} : wipeD env (i :: is) = (wipeD env is).set i none := rfl
@[simp] theorem start_eq {k : Nat} : startD k ds = ds.map some ++ List.replicate (k - ds.length) none := rfl
@[simp] theorem big_eq : big = 100000 := rfl
@[simp] theorem rep_succ {k : Nat} : List.replicate (k + 1) (none : Option D) = none :: List.replicate k none := rfl
end
end Dp
namespace K00
open PySem PySem.Spec PyProof.Rows L2 Dp
structure Sy where
  (n a b : Str) (l d : Int)
abbrev Wl := Str × Int × Int
def wD (w : Wl) : D := .tup [.str w.1, .int w.2.1, .int w.2.2]
def yD (y : Sy) : D := .tup [.str y.n, .str y.a, .str y.b, .int y.l, .int y.d]
def bD (p : Str × Int) : D := .tup [.str p.1, .int p.2]
def millD (ws : List Wl) (ys : List Sy) : D := .tup [.tup (ws.map wD), .tup (ys.map yD)]
section
variable {st : Store}
theorem num_ok (i : Int) : f_is_number [.int i] st = .ok (.bl true) st := by
  have h := (wp_run (np := 1) (nN := 1) (body := bis_number) (ds := [.int i]) (st := st) (Q := fun a s => a = .bl true ∧ s = st) rfl).mpr (by
    simp [bis_number, isi])
  obtain ⟨a, s, e, rfl, rfl⟩ := wp_ex h
  exact e
theorem row_ok (ds : List D) (n : Int) : f_is_row [.tup ds, .int n] st = .ok (.bl (decide ((ds.length : Int) = n))) st := by
  have h := (wp_run (np := 2) (nN := 2) (body := bis_row) (ds := [.tup ds, .int n]) (st := st) (Q := fun a s => a = .bl (decide ((ds.length : Int) = n)) ∧ s = st) rfl).mpr (by
    simp [bis_row, isi, eqD_int])
  obtain ⟨a, s, e, rfl, rfl⟩ := wp_ex h
  exact e

def letters : Str := ⟨#[97, 98, 99, 100, 101, 102, 103, 104, 105, 106, 107, 108, 109, 110, 111, 112, 113, 114, 115, 116, 117, 118, 119, 120, 121, 122]⟩
def wNames : List Str := [⟨#[97]⟩, ⟨#[97, 98]⟩, ⟨#[98]⟩, ⟨#[109]⟩, ⟨#[120]⟩, ⟨#[122, 122]⟩, ⟨#[122, 122, 122, 122, 122, 122, 122, 122]⟩]
def yNames : List Str := [⟨#[97]⟩, ⟨#[99]⟩, ⟨#[112]⟩, ⟨#[113]⟩, ⟨#[114]⟩, ⟨#[115]⟩, ⟨#[116, 116]⟩, ⟨#[120]⟩, ⟨#[121, 121, 121, 121, 121, 121, 121, 121]⟩]
def goodS (s : Str) : Bool := PyData.strOk s && decide (1 ≤ s.length) && decide (s.length ≤ 8) && s.cps.toList.all fun c => decide (c ∈ letters.cps.toList)
theorem good_w : ∀ s ∈ wNames, goodS s = true := by decide +kernel
theorem good_y : ∀ s ∈ yNames, goodS s = true := by decide +kernel
theorem goodS_ok {s : Str} (h : goodS s = true) : PyData.strOk s = true ∧ 1 ≤ s.length ∧ s.length ≤ 8 ∧ ∀ c ∈ s.cps.toList, c ∈ letters.cps.toList := by
  unfold goodS at h
  simp only [Bool.and_eq_true, decide_eq_true_eq, List.all_eq_true] at h
  exact ⟨h.1.1.1, h.1.1.2, h.1.2, h.2⟩
theorem name_ok {s : Str} (h : goodS s = true) (wf : st.cs.length = st.length) : wp (f_is_name [.str s] st) fun a s => a = .bl true ∧ Gr st s := by
  obtain ⟨h0, h1, h2, h3⟩ := goodS_ok h
  have hl : s.length ≤ 100000 := by omega
  simp [f_is_name, bis_name, isi, hl, h1, show ((1 : Int) ≤ s.length) by omega, show ((s.length : Int) ≤ 8) by omega]
  refine wp_lc wf _ (fun _ => true) (fun _ => .bl true) (by simp; have : s.cps.size ≤ 8 := h2; omega) (fun s i _ => ⟨rfl, rfl⟩) ?_ ?_
  · intro d hd u hu
    obtain ⟨c, hc, rfl⟩ := List.mem_map.mp hd
    have hm := h3 c hc
    simp [letters] at hm
    simp [isIn, signOf, hm, Gr.refl hu.wf]
  · intro u hu hc
    rw [filter_tt] at hc
    simp [call_all (fun _ => true) hc, hu]
end
end K00
set_option Elab.async false
set_option linter.all false
set_option maxRecDepth 100000
set_option maxHeartbeats 2000000
namespace Dp
open PySem PySem.Spec PyProof.Rows L2
/-- the same, of what stands for other things -/
theorem wp_lcM {α : Type} {st : Store} {src : Src} {bt : D → Store → Option Slt} {tst : BM} {elt : EM} {Q : D → Store → Prop} (wf : st.cs.length = st.length) (xs : List α) (g : α → D) (p : α → Bool) (f : α → D)
    (hl : xs.length < 1000) (hg : ∀ s i, Gr st s → src.good s i = true ∧ src.at s i = (xs[i]?).map g)
    (step : ∀ x ∈ xs, ∀ s, Gr st s → ∃ env2, bt (g x) s = some env2 ∧ wp (tst env2 s) fun b s2 => b = p x ∧ Gr s s2 ∧ (p x = true → wp (elt env2 s2) fun y s3 => y = f x ∧ Gr s s3))
    (hQ : ∀ s, Gr st s → s[st.length]? = some (.lst ((xs.filter p).map f)) → Q (.ref st.length) s) :
    wp (lcLoop st.length src bt tst elt turns 0 (st.push (.lst []))) Q := by
  have key : ∀ (m i : Nat) (s : Store), i ≤ xs.length → xs.length < m + i → Gr st s → s[st.length]? = some (.lst (((xs.take i).filter p).map f)) → wp (lcLoop st.length src bt tst elt m i s) Q := by
    intro m
    induction m with
    | zero => intro i s h1 h2; omega
    | succ m ih =>
      intro i s h1 h2 hG hc
      unfold lcLoop
      rw [(hg s i hG).1, (hg s i hG).2]
      dsimp only
      cases hd : xs[i]? with
      | none =>
        have : i = xs.length := by have := List.getElem?_eq_none_iff.mp hd; omega
        subst this
        rw [List.take_length] at hc
        exact hQ s hG hc
      | some d =>
        have hi : i < xs.length := (List.getElem?_eq_some_iff.mp hd).1
        obtain ⟨env2, e1, hw⟩ := step d (List.mem_of_getElem? hd) s hG
        obtain ⟨b, s2, e2, hb, g2, hw2⟩ := wp_ex hw
        have htk : xs.take (i + 1) = xs.take i ++ [d] := by rw [List.take_succ, hd]; rfl
        rw [Option.map_some]
        dsimp only
        rw [e1]
        dsimp only
        rw [e2]
        show wp (Out.bind (Out.ok b s2) _) Q
        rw [ok_bind]
        cases hpd : p d with
        | false =>
          rw [hb, hpd]
          dsimp only
          refine ih (i + 1) s2 (by omega) (by omega) (hG.trans g2) ?_
          rw [htk, List.filter_append, show [d].filter p = [] by simp [hpd], List.append_nil]
          exact g2.get hc
        | true =>
          obtain ⟨y, s3, e3, hy, g3⟩ := wp_ex (hw2 hpd)
          rw [hb, hpd]
          dsimp only
          rw [e3]
          show wp (Out.bind (Out.ok y s3) _) Q
          rw [ok_bind]
          have hc3 := g3.get hc
          rw [hc3]
          have hlen : (((xs.take i).filter p).map f).length ≤ xs.length := by
            rw [List.length_map]
            exact Nat.le_trans (List.length_filter_le _ _) (by rw [List.length_take]; omega)
          dsimp only
          rw [if_pos (show _ < big by show _ < 100000; omega)]
          have hs3 : st.length < s3.length := st_lt hc3
          refine ih (i + 1) _ (by omega) (by omega) ((hG.trans g3).set (Nat.le_refl _) hs3) ?_
          rw [htk, List.filter_append, show [d].filter p = [d] by simp [hpd], List.map_append, hy]
          exact st_set_self (hG.trans g3).wf hs3
  exact key turns 0 _ (Nat.zero_le _) (show xs.length < 2000 + 0 by omega) (Gr.push wf) st_push_eq
/-- the same, with the place told -/
theorem wp_lcI {α : Type} {st : Store} {src : Src} {bt : D → Store → Option Slt} {tst : BM} {elt : EM} {Q : D → Store → Prop} (wf : st.cs.length = st.length) (xs : List α) (g : α → D) (p : α → Bool) (f : α → D)
    (hl : xs.length < 1000) (hg : ∀ s i, i ≤ xs.length → Gr st s → src.good s i = true ∧ src.at s i = (xs[i]?).map g)
    (step : ∀ x ∈ xs, ∀ s, Gr st s → ∃ env2, bt (g x) s = some env2 ∧ wp (tst env2 s) fun b s2 => b = p x ∧ Gr s s2 ∧ (p x = true → wp (elt env2 s2) fun y s3 => y = f x ∧ Gr s s3))
    (hQ : ∀ s, Gr st s → s[st.length]? = some (.lst ((xs.filter p).map f)) → Q (.ref st.length) s) :
    wp (lcLoop st.length src bt tst elt turns 0 (st.push (.lst []))) Q := by
  have key : ∀ (m i : Nat) (s : Store), i ≤ xs.length → xs.length < m + i → Gr st s → s[st.length]? = some (.lst (((xs.take i).filter p).map f)) → wp (lcLoop st.length src bt tst elt m i s) Q := by
    intro m
    induction m with
    | zero => intro i s h1 h2; omega
    | succ m ih =>
      intro i s h1 h2 hG hc
      unfold lcLoop
      rw [(hg s i h1 hG).1, (hg s i h1 hG).2]
      dsimp only
      cases hd : xs[i]? with
      | none =>
        have : i = xs.length := by have := List.getElem?_eq_none_iff.mp hd; omega
        subst this
        rw [List.take_length] at hc
        exact hQ s hG hc
      | some d =>
        have hi : i < xs.length := (List.getElem?_eq_some_iff.mp hd).1
        obtain ⟨env2, e1, hw⟩ := step d (List.mem_of_getElem? hd) s hG
        obtain ⟨b, s2, e2, hb, g2, hw2⟩ := wp_ex hw
        have htk : xs.take (i + 1) = xs.take i ++ [d] := by rw [List.take_succ, hd]; rfl
        rw [Option.map_some]
        dsimp only
        rw [e1]
        dsimp only
        rw [e2]
        show wp (Out.bind (Out.ok b s2) _) Q
        rw [ok_bind]
        cases hpd : p d with
        | false =>
          rw [hb, hpd]
          dsimp only
          refine ih (i + 1) s2 (by omega) (by omega) (hG.trans g2) ?_
          rw [htk, List.filter_append, show [d].filter p = [] by simp [hpd], List.append_nil]
          exact g2.get hc
        | true =>
          obtain ⟨y, s3, e3, hy, g3⟩ := wp_ex (hw2 hpd)
          rw [hb, hpd]
          dsimp only
          rw [e3]
          show wp (Out.bind (Out.ok y s3) _) Q
          rw [ok_bind]
          have hc3 := g3.get hc
          rw [hc3]
          have hlen : (((xs.take i).filter p).map f).length ≤ xs.length := by
            rw [List.length_map]
            exact Nat.le_trans (List.length_filter_le _ _) (by rw [List.length_take]; omega)
          dsimp only
          rw [if_pos (show _ < big by show _ < 100000; omega)]
          have hs3 : st.length < s3.length := st_lt hc3
          refine ih (i + 1) _ (by omega) (by omega) ((hG.trans g3).set (Nat.le_refl _) hs3) ?_
          rw [htk, List.filter_append, show [d].filter p = [d] by simp [hpd], List.map_append, hy]
          exact st_set_self (hG.trans g3).wf hs3
  exact key turns 0 _ (Nat.zero_le _) (show xs.length < 2000 + 0 by omega) (Gr.push wf) st_push_eq
/-! dicts -/
theorem putD_len {ks : List (Key × D)} {k : Key} {v : D} : (putD ks k v).length ≤ ks.length + 1 := by
  unfold putD
  split
  · rw [List.length_map]; omega
  · rw [List.length_append]; exact Nat.le_refl _
theorem mergeD_snoc {acc ps : List (Key × D)} {k : Key} {v : D} : mergeD acc (ps ++ [(k, v)]) = putD (mergeD acc ps) k v := by
  unfold mergeD
  rw [List.foldl_append]
  rfl
theorem mergeD_len : ∀ {ps acc : List (Key × D)}, (mergeD acc ps).length ≤ acc.length + ps.length
  | [], acc => Nat.le_refl _
  | p :: ps, acc => by
    have h := mergeD_len (ps := ps) (acc := putD acc p.1 p.2)
    have h2 := putD_len (ks := acc) (k := p.1) (v := p.2)
    have h3 : mergeD acc (p :: ps) = mergeD (putD acc p.1 p.2) ps := rfl
    rw [h3, List.length_cons]
    omega
theorem valD_nil {k : Key} : valD [] k = none := rfl
theorem valD_cons {k j : Key} {d : D} {ks : List (Key × D)} : valD ((j, d) :: ks) k = if j = k then some d else valD ks k := by
  unfold valD
  by_cases h : j = k
  · rw [List.find?_cons_of_pos (by simpa using h), if_pos h]; rfl
  · rw [List.find?_cons_of_neg (by simpa using h), if_neg h]
theorem valD_putM {k j : Key} {v : D} : ∀ {ks : List (Key × D)}, (ks.any fun kv => decide (kv.1 = k)) = true → valD (ks.map fun kv => if kv.1 = k then (kv.1, v) else kv) j = if k = j then some v else valD ks j
  | [], h => by simp at h
  | (a, d) :: ks, h => by
    rw [List.map_cons]
    by_cases ha : a = k
    · subst ha
      rw [if_pos rfl, valD_cons, valD_cons]
      by_cases hj : a = j
      · rw [if_pos hj, if_pos hj]
      · rw [if_neg hj, if_neg hj, if_neg hj]
        by_cases hk : (ks.any fun kv => decide (kv.1 = a)) = true
        · rw [valD_putM hk, if_neg hj]
        · have : (ks.map fun kv => if kv.1 = a then (kv.1, v) else kv) = ks := by
            rw [List.map_congr_left (g := id), List.map_id]
            intro kv hkv
            rw [if_neg]
            · rfl
            · intro e
              exact hk (List.any_eq_true.mpr ⟨kv, hkv, by simpa using e⟩)
          rw [this]
    · rw [if_neg ha, valD_cons, valD_cons]
      have h' : (ks.any fun kv => decide (kv.1 = k)) = true := by
        rw [List.any_cons, Bool.or_eq_true] at h
        rcases h with h | h
        · exact absurd (by simpa using h) ha
        · exact h
      by_cases hj : a = j
      · rw [if_pos hj, if_pos hj, if_neg (fun e => ha (hj.trans e.symm))]
      · rw [if_neg hj, if_neg hj, valD_putM h']
theorem valD_app {k j : Key} {v : D} : ∀ {ks : List (Key × D)}, ¬ (ks.any fun kv => decide (kv.1 = k)) = true → valD (ks ++ [(k, v)]) j = if k = j then some v else valD ks j
  | [], _ => by rw [List.nil_append, valD_cons]
  | (a, d) :: ks, h => by
    rw [List.any_cons, Bool.or_eq_true, not_or] at h
    have ha : ¬ a = k := by simpa using h.1
    rw [List.cons_append, valD_cons, valD_cons, valD_app h.2]
    by_cases hj : a = j
    · rw [if_pos hj, if_neg (fun e => ha (hj.trans e.symm)), if_pos hj]
    · rw [if_neg hj, if_neg hj]
theorem valD_put {ks : List (Key × D)} {k j : Key} {v : D} : valD (putD ks k v) j = if k = j then some v else valD ks j := by
  unfold putD
  split
  · rename_i h; exact valD_putM h
  · rename_i h; exact valD_app h
theorem valD_mergeN {k : Key} : ∀ {ps acc : List (Key × D)}, k ∉ ps.map (·.1) → valD (mergeD acc ps) k = valD acc k
  | [], _, _ => rfl
  | (j, d) :: ps, acc, h => by
    rw [List.map_cons, List.mem_cons, not_or] at h
    have e : mergeD acc ((j, d) :: ps) = mergeD (putD acc j d) ps := rfl
    rw [e, valD_mergeN h.2, valD_put, if_neg (fun e => h.1 e.symm)]
theorem valD_merge {k : Key} {v : D} : ∀ {ps acc : List (Key × D)}, (ps.map (·.1)).Nodup → (k, v) ∈ ps → valD (mergeD acc ps) k = some v
  | [], _, _, h => by cases h
  | (j, d) :: ps, acc, hn, h => by
    rw [List.map_cons, List.nodup_cons] at hn
    have e : mergeD acc ((j, d) :: ps) = mergeD (putD acc j d) ps := rfl
    rcases List.mem_cons.mp h with h | h
    · cases h
      rw [e, valD_mergeN hn.1, valD_put, if_pos rfl]
    · rw [e, valD_merge hn.2 h]
/-- a dict's comprehension -/
theorem wp_dcM {α : Type} {st : Store} {src : Src} {bt : D → Store → Option Slt} {key elt : EM} {Q : D → Store → Prop} (wf : st.cs.length = st.length) (xs : List α) (g : α → D) (k : α → Key) (v : α → D)
    (hl : xs.length < 1000) (hg : ∀ s i, Gr st s → src.good s i = true ∧ src.at s i = (xs[i]?).map g)
    (step : ∀ x ∈ xs, ∀ s, Gr st s → ∃ env2, bt (g x) s = some env2 ∧ wp (key env2 s) fun y s2 => keyOf y = some (k x) ∧ Gr s s2 ∧ wp (elt env2 s2) fun y s3 => y = v x ∧ Gr s s3)
    (hQ : ∀ s, Gr st s → s[st.length]? = some (.dct (mergeD [] (xs.map fun x => (k x, v x)))) → Q (.ref st.length) s) :
    wp (dcLoop st.length src bt K00.mYes key elt turns 0 (st.push (.dct []))) Q := by
  have main : ∀ (m i : Nat) (s : Store), i ≤ xs.length → xs.length < m + i → Gr st s → s[st.length]? = some (.dct (mergeD [] ((xs.take i).map fun x => (k x, v x)))) → wp (dcLoop st.length src bt K00.mYes key elt m i s) Q := by
    intro m
    induction m with
    | zero => intro i s h1 h2; omega
    | succ m ih =>
      intro i s h1 h2 hG hc
      unfold dcLoop
      rw [(hg s i hG).1, (hg s i hG).2]
      dsimp only
      cases hd : xs[i]? with
      | none =>
        have : i = xs.length := by have := List.getElem?_eq_none_iff.mp hd; omega
        subst this
        rw [List.take_length] at hc
        exact hQ s hG hc
      | some d =>
        have hi : i < xs.length := (List.getElem?_eq_some_iff.mp hd).1
        obtain ⟨env2, e1, hw⟩ := step d (List.mem_of_getElem? hd) s hG
        obtain ⟨y, s2, e2, hk, g2, hw2⟩ := wp_ex hw
        obtain ⟨z, s3, e3, hz, g3⟩ := wp_ex hw2
        have htk : xs.take (i + 1) = xs.take i ++ [d] := by rw [List.take_succ, hd]; rfl
        rw [Option.map_some]
        dsimp only
        rw [e1]
        dsimp only
        show wp (Out.bind (Out.ok true s) _) Q
        rw [ok_bind]
        dsimp only
        rw [e2]
        show wp (Out.bind (Out.ok y s2) _) Q
        rw [ok_bind, e3]
        show wp (Out.bind (Out.ok z s3) _) Q
        rw [ok_bind]
        have hc3 := g3.get hc
        rw [hc3, hk]
        have hlen := mergeD_len (ps := (xs.take i).map fun x => (k x, v x)) (acc := [])
        rw [List.length_map, List.length_take, List.length_nil] at hlen
        dsimp only
        rw [if_pos (show _ < big by show _ < 100000; omega)]
        have hs3 : st.length < s3.length := st_lt hc3
        refine ih (i + 1) _ (by omega) (by omega) ((hG.trans g3).set (Nat.le_refl _) hs3) ?_
        rw [htk, List.map_append, hz]
        show _ = some (Cell.dct (mergeD [] (_ ++ [(k d, v d)])))
        rw [mergeD_snoc]
        exact st_set_self (hG.trans g3).wf hs3
  exact main turns 0 _ (Nat.zero_le _) (show xs.length < 2000 + 0 by omega) (Gr.push wf) st_push_eq
end Dp
set_option Elab.async false
set_option linter.all false
set_option maxRecDepth 100000
set_option maxHeartbeats 2000000
namespace Dp
open PySem PySem.Spec PyProof.Rows L2
section
variable {st : Store} {n : Nat} {ds : List D} {y : D}
@[simp] theorem ix_tup : ixOp (.tup ds) y st = ixL ds y st := rfl
@[simp] theorem ix_lst (h : st[n]? = some (.lst ds)) : ixOp (.ref n) y st = ixL ds y st := by simp [ixOp, h]
theorem ixL_at {i : Nat} {d : D} (h : ds[i]? = some d) : ixL ds (.int i) st = .ok d st := by
  have hi := (List.getElem?_eq_some_iff.mp h).1
  have : L2.ixN ds.length (i : Int) = some i := by
    unfold L2.ixN
    rw [if_pos (by omega), if_pos (by omega)]
    simp
  simp [ixL, L2.atI, this, h]
@[simp] theorem ixL_0 {a : D} : ixL (a :: ds) (.int 0) st = .ok a st := ixL_at (i := 0) (by simp)
@[simp] theorem ixL_1 {a b : D} : ixL (a :: b :: ds) (.int 1) st = .ok b st := ixL_at (i := 1) (by simp)
@[simp] theorem ixL_2 {a b c : D} : ixL (a :: b :: c :: ds) (.int 2) st = .ok c st := ixL_at (i := 2) (by simp)
@[simp] theorem ixL_3 {a b c d : D} : ixL (a :: b :: c :: d :: ds) (.int 3) st = .ok d st := ixL_at (i := 3) (by simp)
@[simp] theorem ixL_4 {a b c d e : D} : ixL (a :: b :: c :: d :: e :: ds) (.int 4) st = .ok e st := ixL_at (i := 4) (by simp)
theorem bools_mapM {α : Type} (f : α → Bool) : ∀ xs : List α, boolsOf (xs.map fun d => .bl (f d)) = some (xs.map f)
  | [] => rfl
  | d :: ds => by simp [boolsOf, bools_mapM f ds]
theorem call_allM {α : Type} (xs : List α) (f : α → Bool) (h : st[n]? = some (.lst (xs.map fun d => .bl (f d)))) : callOp .all [.ref n] st = .ok (.bl (xs.all f)) st := by
  simp [callOp, h, bools_mapM, List.all_map]
theorem ix_dct {ks : List (Key × D)} {k : Key} {d : D} (h : st[n]? = some (.dct ks)) (hk : keyOf y = some k) (hv : valD ks k = some d) : ixOp (.ref n) y st = .ok d st := by simp [ixOp, h, hk, hv]
end
end Dp
namespace K00
open PySem PySem.Spec PyProof.Rows L2 Dp
section
variable {st : Store} {ws : List Wl} {ys : List Sy}
theorem wnames_ok (wf : st.cs.length = st.length) (hl : ws.length < 1000) : wp (f_wheel_names [millD ws ys] st) fun a s => a = .ref st.length ∧ Gr st s ∧ s[st.length]? = some (.lst (ws.map fun w => .str w.1)) := by
  simp [f_wheel_names, bwheel_names, millD]
  refine wp_lcM wf ws wD (fun _ => true) (fun w => .str w.1) hl (fun s i _ => ⟨rfl, by simp⟩) ?_ ?_
  · intro w hw s hs
    simp [wD, Gr.refl hs.wf]
  · intro s hs hc
    rw [filter_tt] at hc
    simp [hs, hc]
theorem ynames_ok (wf : st.cs.length = st.length) (hl : ys.length < 1000) : wp (f_saying_names [millD ws ys] st) fun a s => a = .ref st.length ∧ Gr st s ∧ s[st.length]? = some (.lst (ys.map fun w => .str w.n)) := by
  simp [f_saying_names, bsaying_names, millD]
  refine wp_lcM wf ys yD (fun _ => true) (fun w => .str w.n) hl (fun s i _ => ⟨rfl, by simp⟩) ?_ ?_
  · intro w hw s hs
    simp [yD, Gr.refl hs.wf]
  · intro s hs hc
    rw [filter_tt] at hc
    simp [hs, hc]
theorem enames_ok (wf : st.cs.length = st.length) (hl : ws.length < 1000) : wp (f_end_names [millD ws ys] st) fun a s => ∃ n, a = .ref n ∧ st.length ≤ n ∧ Gr st s ∧ s[n]? = some (.lst (.str ⟨#[]⟩ :: ws.map fun w => .str w.1)) := by
  simp [f_end_names, bend_names]
  refine wp_mono (wnames_ok wf hl) ?_
  rintro a s ⟨rfl, hG, hc⟩
  simp [hc, show ws.length ≤ 99999 by omega]
  exact ⟨hG.len, hG.trans (Gr.push hG.wf), st_push_eq⟩
/-- ascending, two by two -/
def ascB (xs : List Str) : Bool := (List.range (xs.length - 1)).all fun i => match xs[i]?, xs[i + 1]? with
  | some a, some b => decide (a.cps.toList < b.cps.toList)
  | _, _ => false
theorem asc_ok {n : Nat} {xs : List Str} (wf : st.cs.length = st.length) (hl : xs.length < 1000) (h : st[n]? = some (.lst (xs.map .str))) : wp (f_ascends [.ref n] st) fun a s => a = .bl (ascB xs) ∧ Gr st s := by
  simp [f_ascends, bascends, h, binOp]
  rw [if_pos (by omega)]
  rw [wp_ok]
  refine wp_lcM wf (List.range (xs.length - 1)) (fun i => D.int (i : Nat)) (fun _ => true) (fun i => .bl (match xs[i]?, xs[i + 1]? with
    | some a, some b => decide (a.cps.toList < b.cps.toList)
    | _, _ => false)) (by simp; omega) (fun s i _ => ⟨rfl, by simp⟩) ?_ ?_
  · intro i hi s hs
    have hi' := List.mem_range.mp hi
    have e1 : xs[i]? = some xs[i] := List.getElem?_eq_getElem (by omega)
    have e2 : xs[i + 1]? = some xs[i + 1] := List.getElem?_eq_getElem (by omega)
    have c := hs.get h
    have f1 : ixL (xs.map .str) (.int (i : Nat)) s = .ok (.str xs[i]) s := ixL_at (by simp [e1])
    have f2 : ixL (xs.map .str) (.int ((i : Int) + 1)) s = .ok (.str xs[i + 1]) s := ixL_at (i := i + 1) (by simp [e2])
    simp [c, f1, f2, e1, e2, binOp, Gr.refl hs.wf]
  · intro s hs hc
    rw [filter_tt] at hc
    rw [call_allM _ _ hc]
    exact ⟨rfl, hs⟩
end
end K00
set_option Elab.async false
set_option linter.all false
set_option maxRecDepth 100000
set_option maxHeartbeats 2000000
namespace K00
open PySem PySem.Spec PyProof.Rows L2 Dp
section
variable {st : Store} {ws : List Wl} {ys : List Sy}
structure WOk (w : Wl) : Prop where
  g : goodS w.1 = true
  lo : 1 ≤ w.2.2
  hi : w.2.2 ≤ w.2.1
theorem wheel_ok {w : Wl} (h : WOk w) (wf : st.cs.length = st.length) : wp (f_is_wheel [wD w] st) fun a s => a = .bl true ∧ Gr st s := by
  simp [f_is_wheel, bis_wheel, wD, row_ok]
  refine wp_mono (name_ok h.g wf) ?_
  rintro a s ⟨rfl, hG⟩
  simp [num_ok, h.lo, h.hi, hG]
structure YOk (E : List Str) (y : Sy) : Prop where
  g : goodS y.n = true
  ne : y.a ≠ y.b
  a : y.a ∈ E
  b : y.b ∈ E
  ga : PyData.strOk y.a = true
  gb : PyData.strOk y.b = true
  d : 0 ≤ y.d
theorem keyOf_str {s : Str} : keyOf (.str s) = some (.inr s) := rfl
theorem in_dct {n : Nat} {ks : List (Key × D)} {s : Str} (h : st[n]? = some (.dct ks)) : isIn (.str s) (.ref n) st = some (valD ks (.inr s)).isSome := by
  simp [isIn, h, keyOf]
theorem sayingB_ok {E : List Str} {y : Sy} {n : Nat} {ks : List (Key × D)} (h : YOk E y) (wf : st.cs.length = st.length) (hd : st[n]? = some (.dct ks)) (hk : ∀ e ∈ E, valD ks (.inr e) = some (.bl true)) : wp (f_is_saying [yD y, .ref n] st) fun a s => a = .bl true ∧ Gr st s := by
  simp [f_is_saying, bis_saying, yD, row_ok]
  refine wp_mono (name_ok h.g wf) ?_
  rintro a s ⟨rfl, hG⟩
  have hd' := hG.get hd
  simp [isi, eqD_str h.ga h.gb, h.ne, in_dct hd', hk _ h.a, hk _ h.b, num_ok, h.d, hG]
end
end K00
set_option Elab.async false
set_option linter.all false
set_option maxRecDepth 100000
set_option maxHeartbeats 4000000
namespace K00
open PySem PySem.Spec PyProof.Rows L2 Dp
def noS : Str := ⟨#[]⟩
def endsOf (ws : List Wl) : List Str := noS :: ws.map (·.1)
section
variable {st : Store} {ws : List Wl} {ys : List Sy}
theorem all_tt {α : Type} {n : Nat} {xs : List α} (h : st[n]? = some (.lst (xs.map fun _ => .bl true))) : callOp .all [.ref n] st = .ok (.bl true) st := by
  rw [call_allM xs (fun _ => true) h]
  try simp
theorem mill_ok (hw : ∀ w ∈ ws, WOk w) (hy : ∀ y ∈ ys, YOk (endsOf ws) y) (hn : (endsOf ws).Nodup) (hl : ws.length < 900) (hl2 : ys.length < 900) (ha : ascB (ws.map (·.1)) = true) (wf : st.cs.length = st.length) :
    wp (f_is_mill [millD ws ys] st) fun a s => a = .bl (ascB (ys.map (·.n))) ∧ Gr st s := by
  simp [f_is_mill, bis_mill, millD, row_ok, isi]
  refine wp_lcM wf ws wD (fun _ => true) (fun _ => .bl true) (by omega) (fun s i _ => ⟨rfl, by simp⟩) ?_ ?_
  · intro w hw' s hs
    simp [Gr.refl hs.wf]
    exact wp_mono (wheel_ok (hw w hw') hs.wf) fun a s h => h
  intro s1 g1 c1
  rw [filter_tt] at c1
  rw [all_tt c1]
  try simp
  refine wp_mono (wnames_ok (ws := ws) (ys := ys) g1.wf (by omega)) ?_
  rintro a s2 ⟨rfl, g2, c2⟩
  try simp
  refine wp_mono (asc_ok (xs := ws.map (·.1)) g2.wf (by simp; omega) (by rw [c2, List.map_map]; rfl)) ?_
  rintro a s3 ⟨rfl, g3⟩
  simp [ha]
  refine wp_mono (enames_ok (ws := ws) (ys := ys) g3.wf (by omega)) ?_
  rintro a s4 ⟨n4, rfl, l4, g4, c4⟩
  simp [c4]
  refine wp_dcM g4.wf (endsOf ws) .str .inr (fun _ => .bl true) (by simp [endsOf]; omega) ?_ ?_ ?_
  · intro s i hs
    have c := hs.get c4
    have e : (D.str ⟨#[]⟩ :: ws.map fun w => D.str w.1) = (endsOf ws).map .str := by simp [endsOf, noS]
    rw [e] at c
    exact ⟨by simp [c], by rw [dyn_at' c, List.getElem?_map]⟩
  · intro x hx s hs
    simp [keyOf_str, Gr.refl hs.wf]
  intro s5 g5 c5
  try simp
  have hk : ∀ e ∈ endsOf ws, valD (mergeD [] ((endsOf ws).map fun x => ((.inr x : Key), D.bl true))) (.inr e) = some (.bl true) := by
    intro e he
    refine valD_merge ?_ (List.mem_map.mpr ⟨e, he, rfl⟩)
    rw [List.map_map]
    exact List.Pairwise.map _ (fun a b hab h => hab (by simpa using h)) hn
  refine wp_lcM g5.wf ys yD (fun _ => true) (fun _ => .bl true) (by omega) (fun s i _ => ⟨rfl, by simp⟩) ?_ ?_
  · intro y hy' s hs
    simp [Gr.refl hs.wf]
    exact wp_mono (sayingB_ok (hy y hy') hs.wf (hs.get c5) hk) fun a s h => h
  intro s6 g6 c6
  rw [filter_tt] at c6
  rw [all_tt c6]
  try simp
  refine wp_mono (ynames_ok (ws := ws) (ys := ys) g6.wf (by omega)) ?_
  rintro a s7 ⟨rfl, g7, c7⟩
  try simp
  refine wp_mono (asc_ok (xs := ys.map (·.n)) g7.wf (by simp; omega) (by rw [c7, List.map_map]; rfl)) ?_
  rintro a s8 ⟨rfl, g8⟩
  exact ⟨rfl, g1.trans (g2.trans (g3.trans (g4.trans (g5.trans (g6.trans (g7.trans g8))))))⟩
end
end K00
set_option Elab.async false
set_option linter.all false
set_option maxRecDepth 100000
set_option maxHeartbeats 4000000
namespace K00
open PySem PySem.Spec PyProof.Rows L2 Dp
section
variable {st : Store} {ws : List Wl} {ys : List Sy} {bs : List (Str × Int)}
theorem begins_no (wf : st.cs.length = st.length) (hl : ws.length < 900) (hne : bs.length ≠ ws.length) : wp (f_is_begins [millD ws ys, .tup (bs.map bD)] st) fun a s => a = .bl false ∧ Gr st s := by
  simp [f_is_begins, bis_begins]
  refine wp_mono (wnames_ok wf (by omega)) ?_
  rintro a s ⟨rfl, hG, hc⟩
  simp [hc, row_ok, show ¬ (bs.length : Int) = ws.length by omega, hG]
theorem begins_yes (wf : st.cs.length = st.length) (hl : ws.length < 900) (he : ws.map (·.1) = bs.map (·.1)) (hok : ∀ b ∈ bs, PyData.strOk b.1 = true) : wp (f_is_begins [millD ws ys, .tup (bs.map bD)] st) fun a s => a = .bl true ∧ Gr st s := by
  have hlen : ws.length = bs.length := by have := congrArg List.length he; simpa using this
  simp [f_is_begins, bis_begins]
  refine wp_mono (wnames_ok wf (by omega)) ?_
  rintro a s ⟨rfl, hG, hc⟩
  have hc' : s[st.length]? = some (.lst (bs.map fun b => .str b.1)) := by
    rw [hc]
    have : (ws.map fun w => D.str w.1) = (bs.map fun b => D.str b.1) := by
      have := congrArg (List.map D.str) he
      rw [List.map_map, List.map_map] at this
      exact this
    rw [this]
  simp [hc', row_ok, hlen, sdOf, Src.size]
  refine wp_for (bs.map fun b => .tup [.str b.1, bD b]) (fun i e u => i ≤ bs.length ∧ Gr s u ∧ ∃ x3 x4, e = [some (millD ws ys), some (.tup (bs.map bD)), some (.ref st.length), x3, x4]) (by simp; omega) ?_ ?_ ?_ ?_
  · rintro i e u ⟨hi, hu, x3, x4, rfl⟩
    have c := hu.get hc'
    constructor
    · simp [Src.good, Src.size, c, hi]
    · simp only [Src.at]
      simp [c]
      cases bs[i]? <;> simp
  · exact ⟨Nat.zero_le _, Gr.refl hG.wf, none, none, by simp⟩
  · rintro i d e u hd ⟨hi, hu, x3, x4, rfl⟩
    rw [List.getElem?_map] at hd
    obtain ⟨b, hb, rfl⟩ := Option.map_eq_some_iff.mp hd
    have hi' := (List.getElem?_eq_some_iff.mp hb).1
    have ho := hok b (List.mem_of_getElem? hb)
    simp [bD, row_ok, isi, eqD_str ho ho, num_ok]
    exact ⟨hi', hu⟩
  · rintro e u ⟨hi, hu, x3, x4, rfl⟩
    simp
    exact hG.trans hu
def bTab (bs : List (Str × Int)) (s : Str) : Int := ((bs.find? fun b => decide (b.1 = s)).map (·.2)).getD 0
/-- a table of begins -/
def TabAt (bs : List (Str × Int)) (ks : List (Key × D)) : Prop := valD ks (.inr noS) = some (.int 0) ∧ ∀ b ∈ bs, valD ks (.inr b.1) = some (.int b.2)
theorem btable_ok (wf : st.cs.length = st.length) (hl : bs.length < 900) (hn : (noS :: bs.map (·.1)).Nodup) : wp (f_begin_table [.tup (bs.map bD)] st) fun a s => ∃ n ks, a = .ref n ∧ Gr st s ∧ s[n]? = some (.dct ks) ∧ TabAt bs ks := by
  simp [f_begin_table, bbegin_table]
  refine wp_dcM wf bs bD (fun b => .inr b.1) (fun b => .int b.2) (by omega) (fun s i _ => ⟨rfl, by simp⟩) ?_ ?_
  · intro x hx s hs
    simp [bD, keyOf_str, Gr.refl hs.wf]
  intro s hs hc
  have hlen : (mergeD [] (bs.map fun b => ((.inr b.1 : Key), D.int b.2))).length < 100000 := by
    have := mergeD_len (ps := bs.map fun b => ((.inr b.1 : Key), D.int b.2)) (acc := [])
    rw [List.length_map, List.length_nil] at this
    omega
  simp [setOp, hc, keyOf_str, hlen]
  have hlt := st_lt hc
  refine ⟨hs.set (Nat.le_refl _) hlt, _, st_set_self hs.wf hlt, ?_, ?_⟩
  · show valD (putD _ (.inr noS) _) (.inr noS) = _
    rw [valD_put, if_pos rfl]
  · intro b hb
    rw [List.nodup_cons] at hn
    have : noS ≠ b.1 := fun e => hn.1 (e ▸ List.mem_map_of_mem hb)
    show valD (putD _ (.inr noS) _) (.inr b.1) = _
    rw [valD_put, if_neg (by simpa using this)]
    refine valD_merge ?_ (List.mem_map.mpr ⟨b, hb, rfl⟩)
    rw [List.map_map]
    have := List.Pairwise.map (S := (· ≠ ·)) (f := fun s : Str => (.inr s : Key)) (fun a b hab h => hab (by simpa using h)) hn.2
    rw [List.map_map] at this
    exact this
/-- by how much a SAYING is off -/
def farOf (tb : Str → Int) (y : Sy) : Int := let f := tb y.b - tb y.a - y.l; if y.d = 0 then f else f % y.d
def tbOf (bs : List (Str × Int)) (s : Str) : Int := if s = noS then 0 else bTab bs s
theorem tbOf_mem (hn : (bs.map (·.1)).Nodup) (h0 : noS ∉ bs.map (·.1)) {b : Str × Int} (hb : b ∈ bs) : tbOf bs b.1 = b.2 := by
  have : b.1 ≠ noS := fun e => h0 (e ▸ List.mem_map_of_mem hb)
  unfold tbOf bTab
  rw [if_neg this]
  induction bs with
  | nil => cases hb
  | cons c cs ih =>
    rw [List.map_cons, List.nodup_cons] at hn
    rcases List.mem_cons.mp hb with e | hb'
    · subst e
      rw [List.find?_cons_of_pos (by simp)]
      rfl
    · have hne : c.1 ≠ b.1 := fun e => hn.1 (e ▸ List.mem_map_of_mem hb')
      rw [List.find?_cons_of_neg (by simpa using hne)]
      exact ih hn.2 (fun h => h0 (by rw [List.map_cons]; exact List.mem_cons_of_mem _ h)) hb'
/-- what a table tells of an end -/
theorem tab_get {ks : List (Key × D)} (T : TabAt bs ks) (hn : (noS :: bs.map (·.1)).Nodup) {e : Str} (he : e ∈ noS :: bs.map (·.1)) : valD ks (.inr e) = some (.int (tbOf bs e)) := by
  rw [List.nodup_cons] at hn
  rcases List.mem_cons.mp he with rfl | h
  · rw [T.1]; unfold tbOf; rw [if_pos rfl]
  · obtain ⟨b, hb, rfl⟩ := List.mem_map.mp h
    rw [T.2 b hb, tbOf_mem hn.2 hn.1 hb]
theorem far_ok {y : Sy} {n : Nat} {ks : List (Key × D)} (h : st[n]? = some (.dct ks)) {tb : Str → Int} (ha : valD ks (.inr y.a) = some (.int (tb y.a))) (hb : valD ks (.inr y.b) = some (.int (tb y.b))) (hd : 0 ≤ y.d) :
    f_how_far_off [yD y, .ref n] st = .ok (.int (farOf tb y)) st := by
  have e : wp (f_how_far_off [yD y, .ref n] st) fun a s => a = .int (farOf tb y) ∧ s = st := by
    have i1 : ixOp (.ref n) (.str y.b) st = .ok (.int (tb y.b)) st := ix_dct h keyOf_str hb
    have i2 : ixOp (.ref n) (.str y.a) st = .ok (.int (tb y.a)) st := ix_dct h keyOf_str ha
    simp [f_how_far_off, bhow_far_off, yD, i1, i2, binOp, eqD_int]
    by_cases hz : y.d = 0
    · simp [hz, farOf]
    · simp [hz, farOf, binOp, show 0 < y.d by omega]
  obtain ⟨a, s, e, rfl, rfl⟩ := wp_ex e
  exact e
theorem unkept_ok (wf : st.cs.length = st.length) (hl : bs.length < 900) (hl2 : ys.length < 900) (hn : (noS :: bs.map (·.1)).Nodup) (hy : ∀ y ∈ ys, y.a ∈ noS :: bs.map (·.1) ∧ y.b ∈ noS :: bs.map (·.1) ∧ 0 ≤ y.d) :
    wp (f_unkept [millD ws ys, .tup (bs.map bD)] st) fun a s => a = .tup ((ys.filter fun y => !decide (farOf (tbOf bs) y = 0)).map fun y => .str y.n) ∧ Gr st s := by
  simp [f_unkept, bunkept]
  refine wp_mono (btable_ok wf hl hn) ?_
  rintro a s ⟨n, ks, rfl, g1, c1, T⟩
  simp [millD]
  refine wp_lcM g1.wf ys yD (fun y => !decide (farOf (tbOf bs) y = 0)) (fun y => .str y.n) (by omega) (fun s i _ => ⟨rfl, by simp⟩) ?_ ?_
  · intro y hy' u hu
    have h3 := hy y hy'
    simp [far_ok (hu.get c1) (tab_get T hn h3.1) (tab_get T hn h3.2.1) h3.2.2, eqD_int, Gr.refl hu.wf]
    simp [yD]
    exact fun _ => Gr.refl hu.wf
  · intro u hu c
    simp [items_ref c]
    exact g1.trans hu
end
end K00
set_option Elab.async false
set_option linter.all false
set_option maxRecDepth 100000
set_option maxHeartbeats 4000000
namespace Dp
open PySem PySem.Spec PyProof.Rows L2
section
variable {st : Store}
theorem pyL_map {α : Type} (f : D → Option PyData) (g : α → D) (p : α → PyData) (xs : List α) (h : ∀ x ∈ xs, f (g x) = some (p x)) : pyL f (xs.map g) = some (xs.map p) := by
  induction xs with
  | nil => rfl
  | cons x xs ih =>
    rw [List.map_cons, List.map_cons]
    unfold pyL
    rw [h x List.mem_cons_self, ih fun y hy => h y (List.mem_cons_of_mem _ hy)]
theorem lay_map {α : Type} (p : α → PyData) (xs : List α) (h : ∀ x ∈ xs, (p x).canLay0 = true) : PyData.canLayAll0 (xs.map p) = true := by
  induction xs with
  | nil => simp [PyData.canLayAll0]
  | cons x xs ih =>
    rw [List.map_cons]
    simp [PyData.canLayAll0, h x List.mem_cons_self, ih fun y hy => h y (List.mem_cons_of_mem _ hy)]
theorem depth_map {α : Type} (p : α → PyData) (n : Nat) (xs : List α) (h : ∀ x ∈ xs, (p x).depth ≤ n) : PyData.depthAll (xs.map p) ≤ n := by
  induction xs with
  | nil => simp [PyData.depthAll]
  | cons x xs ih =>
    rw [List.map_cons]
    have h1 := h x List.mem_cons_self
    have h2 := ih fun y hy => h y (List.mem_cons_of_mem _ hy)
    simp [PyData.depthAll]
    omega
theorem eqD_nil {α : Type} (g : α → D) (p : α → PyData) (xs : List α) (h : ∀ x ∈ xs, pyOf 23 st (g x) = some (p x)) (hl : ∀ x ∈ xs, (p x).canLay0 = true) (hd : ∀ x ∈ xs, (p x).depth ≤ 10) : eqD (.tup (xs.map g)) (.tup []) st = some (decide (xs = [])) := by
  have h1 := pyL_map (pyOf 23 st) g p xs h
  have h2 := lay_map p xs hl
  have h3 := depth_map p 10 xs hd
  have e1 : pyOf deep st (.tup (xs.map g)) = some (.tuple (xs.map p)) := by
    show (pyL (pyOf 23 st) _).map _ = _
    rw [h1]
    rfl
  have e2 : pyOf deep st (.tup []) = some (.tuple []) := rfl
  unfold eqD
  rw [e1, e2]
  have h4 : PyData.depthAll (xs.map p) + 1 ≤ 64 := by omega
  simp [SeqAt.shaped, PyData.canLay0, PyData.depth, h2, h4, PyData.canLayAll0, PyData.depthAll]
  cases xs with
  | nil => simp [PyData.eqv, PyData.eqvAll]
  | cons x xs => simp [PyData.eqv, PyData.eqvAll]
theorem nd_inj {α β : Type} {f : α → β} : ∀ {l : List α}, (l.map f).Nodup → ∀ {x y : α}, x ∈ l → y ∈ l → f x = f y → x = y
  | [], _, x, y, hx, _, _ => absurd hx List.not_mem_nil
  | a :: l, h, x, y, hx, hy, e => by
    rw [List.map_cons, List.nodup_cons] at h
    rcases List.mem_cons.mp hx with hx1 | hx1
    · rcases List.mem_cons.mp hy with hy1 | hy1
      · rw [hx1, hy1]
      · subst hx1; exact absurd (e ▸ List.mem_map_of_mem hy1) h.1
    · rcases List.mem_cons.mp hy with hy1 | hy1
      · subst hy1; exact absurd (e ▸ List.mem_map_of_mem hx1) h.1
      · exact nd_inj h.2 hx1 hy1 e
end
end Dp
namespace K00
open PySem PySem.Spec PyProof.Rows L2 Dp
section
variable {st : Store} {ws : List Wl} {ys : List Sy} {bs : List (Str × Int)}
theorem eq_nilS {xs : List Str} (h : ∀ x ∈ xs, PyData.strOk x = true) : eqD (.tup (xs.map .str)) (.tup []) st = some (decide (xs = [])) :=
  eqD_nil .str .str xs (fun x _ => by simp [pyOf]) (fun x hx => by simp [PyData.canLay0, h x hx]) (fun x _ => by simp [PyData.depth])
theorem eq_nilY {xs : List Sy} (h : ∀ x ∈ xs, PyData.strOk x.n = true ∧ PyData.strOk x.a = true ∧ PyData.strOk x.b = true) : eqD (.tup (xs.map yD)) (.tup []) st = some (decide (xs = [])) :=
  eqD_nil yD (fun y => .tuple [.str y.n, .str y.a, .str y.b, .int y.l, .int y.d]) xs (fun x _ => by simp [pyOf, yD, pyL]) (fun x hx => by simp [PyData.canLay0, PyData.canLayAll0, h x hx]) (fun x _ => by simp [PyData.depth, PyData.depthAll])
/-- the SAYINGS that are not kept -/
def badOf (bs : List (Str × Int)) (ys : List Sy) : List Str := (ys.filter fun y => !decide (farOf (tbOf bs) y = 0)).map (·.n)
/-- MILL and BEGINS that go together -/
structure Fit (ws : List Wl) (ys : List Sy) (bs : List (Str × Int)) : Prop where
  nd : (noS :: bs.map (·.1)).Nodup
  he : ws.map (·.1) = bs.map (·.1)
  ok : ∀ b ∈ bs, PyData.strOk b.1 = true
  y : ∀ y ∈ ys, YOk (noS :: bs.map (·.1)) y
  lb : bs.length < 900
  lw : ws.length < 900
  ly : ys.length < 900
theorem Fit.sOk (F : Fit ws ys bs) : ∀ y ∈ ys, PyData.strOk y.n = true ∧ PyData.strOk y.a = true ∧ PyData.strOk y.b = true := fun y hy => ⟨(goodS_ok (F.y y hy).g).1, (F.y y hy).ga, (F.y y hy).gb⟩
theorem Fit.bOk (F : Fit ws ys bs) : ∀ x ∈ badOf bs ys, PyData.strOk x = true := fun x hx => by
  obtain ⟨y, hy, rfl⟩ := List.mem_map.mp hx
  exact (F.sOk y (List.mem_filter.mp hy).1).1
theorem unkept_ok' (wf : st.cs.length = st.length) (F : Fit ws ys bs) : wp (f_unkept [millD ws ys, .tup (bs.map bD)] st) fun a s => a = .tup ((badOf bs ys).map .str) ∧ Gr st s := by
  refine wp_mono (unkept_ok wf F.lb F.ly F.nd fun y hy => ⟨(F.y y hy).a, (F.y y hy).b, (F.y y hy).d⟩) ?_
  rintro a s ⟨rfl, g⟩
  refine ⟨?_, g⟩
  unfold badOf
  rw [List.map_map]
  rfl
theorem setting_ok (wf : st.cs.length = st.length) (F : Fit ws ys bs) : wp (f_is_setting [millD ws ys, .tup (bs.map bD)] st) fun a s => a = .bl (decide (badOf bs ys = [])) ∧ Gr st s := by
  simp [f_is_setting, bis_setting]
  refine wp_mono (begins_yes wf F.lw F.he F.ok) ?_
  rintro a s ⟨rfl, g1⟩
  simp
  refine wp_mono (unkept_ok' g1.wf F) ?_
  rintro a s2 ⟨rfl, g2⟩
  simp [eq_nilS F.bOk]
  exact g1.trans g2
theorem setting_no (wf : st.cs.length = st.length) (hl : ws.length < 900) (hne : bs.length ≠ ws.length) : wp (f_is_setting [millD ws ys, .tup (bs.map bD)] st) fun a s => a = .bl false ∧ Gr st s := by
  simp [f_is_setting, bis_setting]
  refine wp_mono (begins_no wf hl hne) ?_
  rintro a s ⟨rfl, g1⟩
  simp [g1]
theorem called_ok (wf : st.cs.length = st.length) (hl : ys.length < 900) (hn : (ys.map (·.n)).Nodup) (hs : ∀ y ∈ ys, PyData.strOk y.n = true) {y : Sy} (hy : y ∈ ys) : f_saying_called [millD ws ys, .str y.n] st = .ok (yD y) st := by
  have key : wp (f_saying_called [millD ws ys, .str y.n] st) fun a s => a = yD y ∧ s = st := by
    simp [f_saying_called, bsaying_called, millD]
    refine wp_for (ys.map yD) (fun i e u => u = st ∧ (∃ x, e = [some (millD ws ys), some (.str y.n), x]) ∧ y ∉ ys.take i) (by simp; omega) (fun i e u _ => ⟨rfl, rfl⟩) ⟨rfl, ⟨none, rfl⟩, by simp⟩ ?_ ?_
    · rintro i d e u hd ⟨rfl, ⟨x, rfl⟩, hi⟩
      rw [List.getElem?_map] at hd
      obtain ⟨z, hz, rfl⟩ := Option.map_eq_some_iff.mp hd
      have hzm := List.mem_of_getElem? hz
      simp [yD, eqD_str (hs z hzm) (hs y hy)]
      by_cases hzy : z.n = y.n
      · have : z = y := nd_inj hn hzm hy hzy
        simp [hzy, this]
      · simp [hzy]
        rw [List.take_succ, hz]
        simp [hi]
        exact fun e => hzy (by rw [e])
    · rintro e u ⟨rfl, ⟨x, rfl⟩, hi⟩
      rw [List.length_map, List.take_length] at hi
      exact absurd hy hi
  obtain ⟨a, s, e, rfl, rfl⟩ := wp_ex key
  exact e
end
end K00
set_option Elab.async false
set_option linter.all false
set_option maxRecDepth 100000
set_option maxHeartbeats 4000000
namespace Dp
open PySem PySem.Spec PyProof.Rows L2
section
variable {st : Store} {n m : Nat} {ds es : List D}
theorem call_dict {kvs : List (Key × D)} (h : st[n]? = some (.lst ds)) (hp : Dp.pairsOf ds = some kvs) : callOp .dict [.ref n] st = .ok (.ref st.length) (st.push (.dct (mergeD [] kvs))) := by simp [callOp, h, hp]
theorem add_lst (h : st[n]? = some (.lst ds)) (g : st[m]? = some (.lst es)) (hl : ds.length + es.length ≤ 100000) : binOp .Add (.ref n) (.ref m) st = .ok (.ref st.length) (st.push (.lst (ds ++ es))) := by simp [binOp, h, g, hl]
@[simp] theorem add_int {i j : Int} : binOp .Add (.int i) (.int j) st = .ok (.int (i + j)) st := rfl
@[simp] theorem sub_int {i j : Int} : binOp .Sub (.int i) (.int j) st = .ok (.int (i - j)) st := rfl
theorem st_len_push {c : Cell} : (st.push c).length = st.length + 1 := rfl
end
end Dp
namespace K00
open PySem PySem.Spec PyProof.Rows L2 Dp
section
variable {st : Store} {ws : List Wl} {ys : List Sy} {bs : List (Str × Int)}
theorem off_ok (wf : st.cs.length = st.length) (F : Fit ws ys bs) (hn : (ys.map (·.n)).Nodup) {y : Sy} (hy : y ∈ ys) : wp (f_off_by [millD ws ys, .tup (bs.map bD), .str y.n] st) fun a s => a = .int (farOf (tbOf bs) y) ∧ Gr st s := by
  simp [f_off_by, boff_by, called_ok wf F.ly hn (fun z hz => (F.sOk z hz).1) hy]
  refine wp_mono (btable_ok wf F.lb F.nd) ?_
  rintro a s ⟨n, ks, rfl, g1, c1, T⟩
  have h3 := F.y y hy
  simp [far_ok c1 (tab_get T F.nd h3.a) (tab_get T F.nd h3.b) h3.d, g1]
theorem pairs_map : ∀ bs : List (Str × Int), Dp.pairsOf (bs.map bD) = some (bs.map fun b => ((.inr b.1 : Key), D.int b.2))
  | [] => rfl
  | b :: bs => by simp [bD, Dp.pairsOf, keyOf_str, pairs_map bs]
theorem ltab_ok (wf : st.cs.length = st.length) (hl : bs.length < 900) (hn : (noS :: bs.map (·.1)).Nodup) : wp (f__law_table [.tup (bs.map bD)] st) fun a s => ∃ n ks, a = .ref n ∧ Gr st s ∧ s[n]? = some (.dct ks) ∧ TabAt bs ks := by
  simp [f__law_table, b_law_table]
  refine wp_lcM (st := st.push (.lst [bD (noS, 0)])) (wfPush wf) bs bD (fun _ => true) bD (by omega) (fun s i _ => ⟨rfl, by simp⟩) ?_ ?_
  · intro b hb s hs
    simp [bD, Gr.refl hs.wf]
  intro s hs hc
  rw [filter_tt] at hc
  have h0 : s[st.length]? = some (.lst [bD (noS, 0)]) := hs.get st_push_eq
  have hg : Gr st s := (Gr.push wf).trans hs
  have hb : bs.length + 1 ≤ 100000 := by omega
  have hb' : bs.length ≤ 99999 := by omega
  have hpl : (st.push (.lst [bD (noS, 0)])).length = st.length + 1 := rfl
  rw [hpl] at hc
  have hp : Dp.pairsOf ([bD (noS, 0)] ++ bs.map bD) = some (((.inr noS : Key), D.int 0) :: bs.map fun b => ((.inr b.1 : Key), D.int b.2)) := by
    simp [bD, Dp.pairsOf, keyOf_str]
    rw [pairs_map bs]
  have e1 := add_lst h0 hc (by simp; omega)
  have e2 := call_dict (st := s.push (.lst ([bD (noS, 0)] ++ bs.map bD))) st_push_eq hp
  simp [hpl, e1]
  simp at e2
  rw [e2]
  have hg2 := (hg.trans (Gr.push hs.wf (c := .lst ([bD (noS, 0)] ++ bs.map bD))))
  have hnd : ((((.inr noS : Key), D.int 0) :: bs.map fun b => ((.inr b.1 : Key), D.int b.2)).map (·.1)).Nodup := by
    have := List.Pairwise.map (S := (· ≠ ·)) (f := fun s : Str => (.inr s : Key)) (fun a b hab h => hab (by simpa using h)) hn
    rw [List.map_cons, List.map_map] at this ⊢
    exact this
  refine ⟨_, rfl, hg2.trans (Gr.push hg2.wf), _, st_push_eq, valD_merge hnd List.mem_cons_self, fun b hb => valD_merge hnd (List.mem_cons_of_mem _ (List.mem_map.mpr ⟨b, hb, rfl⟩))⟩
theorem kept_ok {y : Sy} {n : Nat} {ks : List (Key × D)} (h : st[n]? = some (.dct ks)) {tb : Str → Int} (ha : valD ks (.inr y.a) = some (.int (tb y.a))) (hb : valD ks (.inr y.b) = some (.int (tb y.b))) (hd : 0 ≤ y.d) :
    f__law_kept [.ref n, yD y] st = .ok (.bl (decide (farOf tb y = 0))) st := by
  have e : wp (f__law_kept [.ref n, yD y] st) fun a s => a = .bl (decide (farOf tb y = 0)) ∧ s = st := by
    have i1 : ixOp (.ref n) (.str y.b) st = .ok (.int (tb y.b)) st := ix_dct h keyOf_str hb
    have i2 : ixOp (.ref n) (.str y.a) st = .ok (.int (tb y.a)) st := ix_dct h keyOf_str ha
    simp [f__law_kept, b_law_kept, yD, i1, i2, binOp, eqD_int]
    by_cases hz : y.d = 0
    · simp [hz, farOf, eqD_int]
    · simp [hz, farOf, binOp, show 0 < y.d by omega, eqD_int]
  obtain ⟨a, s, e, rfl, rfl⟩ := wp_ex e
  exact e
end
end K00
set_option Elab.async false
set_option linter.all false
set_option maxRecDepth 100000
set_option maxHeartbeats 4000000
namespace K00
open PySem PySem.Spec PyProof.Rows L2 Dp
section
variable {st : Store}
@[simp] theorem sd_tup {ds : List D} : sdOf st (.tup ds) = some (.fix ds) := rfl
@[simp] theorem sd_lst {n : Nat} {ds : List D} (h : st[n]? = some (.lst ds)) : sdOf st (.ref n) = some (.dyn n) := by simp [sdOf, h]
@[simp] theorem size_fix {ds : List D} : (Src.fix ds).size st = some ds.length := rfl
@[simp] theorem size_dyn {n : Nat} {ds : List D} (h : st[n]? = some (.lst ds)) : (Src.dyn n).size st = some ds.length := by simp [Src.size, h]
@[simp] theorem zip_good {n m i : Nat} {a b : Src} : (Src.zipm n m a b).good st i = (decide (a.size st = some n) && decide (b.size st = some m) && decide (i ≤ n) && decide (i ≤ m)) := rfl
@[simp] theorem zip_at {n m i : Nat} {a b : Src} : (Src.zipm n m a b).at st i = match a.at st i, b.at st i with
  | some x, some y => some (.tup [x, y])
  | _, _ => none := rfl
@[simp] theorem isNon_str {s : Str} : Dp.isNon (.str s) = false := rfl
@[simp] theorem isNon_bl {s : Bool} : Dp.isNon (.bl s) = false := rfl
theorem same_succ (k : Nat) : f__law_same (k + 1) = runF 2 5 (b_law_same (f__law_same k)) := rfl
theorem same_str (k : Nat) {s : Str} (h : PyData.strOk s = true) : f__law_same (k + 1) [.str s, .str s] st = .ok (.bl true) st := by
  have e : wp (f__law_same (k + 1) [.str s, .str s] st) fun a u => a = .bl true ∧ u = st := by
    rw [same_succ]
    simp [b_law_same, isi, tysOf, Dp.isNon, eqD_bl, eqD_str h h]
  obtain ⟨a, s, e, rfl, rfl⟩ := wp_ex e
  exact e
theorem same_bl (k : Nat) {b : Bool} : f__law_same (k + 1) [.bl b, .bl b] st = .ok (.bl true) st := by
  have e : wp (f__law_same (k + 1) [.bl b, .bl b] st) fun a u => a = .bl true ∧ u = st := by
    rw [same_succ]
    simp [b_law_same, isi, tysOf, Dp.isNon, eqD_bl]
  obtain ⟨a, s, e, rfl, rfl⟩ := wp_ex e
  exact e
theorem same_tup (k : Nat) {xs : List Str} (h : ∀ x ∈ xs, PyData.strOk x = true) (hl : xs.length < 900) (wf : st.cs.length = st.length) : wp (f__law_same (k + 2) [.tup (xs.map .str), .tup (xs.map .str)] st) fun a u => a = .bl true ∧ Gr st u := by
  rw [same_succ]
  simp [b_law_same, isi, tysOf, eqD_bl, eqD_int, -sd_tup]
  rw [sd_tup]
  dsimp only
  rw [size_fix]
  dsimp only
  rw [wp_ok]
  refine wp_lcI wf xs (fun x => .tup [.str x, .str x]) (fun _ => true) (fun _ => .bl true) (by omega) ?_ ?_ ?_
  · intro s i hi hs
    constructor
    · simp [hi]
    · simp
      cases xs[i]? <;> simp
  · intro x hx u hu
    simp [same_str k (h x hx), Gr.refl hu.wf]
  · intro u hu c
    rw [filter_tt] at c
    simp [all_tt c, hu]
/-- what the law compares: truth values, texts in a row -/
inductive Plain : D → Prop where
  | bl (b : Bool) : Plain (.bl b)
  | tx {xs : List Str} (h : ∀ x ∈ xs, PyData.strOk x = true) (hl : xs.length < 900) : Plain (.tup (xs.map .str))
theorem same_plain (k : Nat) {d : D} (h : Plain d) (wf : st.cs.length = st.length) : wp (f__law_same (k + 2) [d, d] st) fun a u => a = .bl true ∧ Gr st u := by
  cases h with
  | bl b => rw [same_bl]; exact ⟨rfl, Gr.refl wf⟩
  | tx h hl => exact same_tup k h hl wf
theorem same_list (k : Nat) {n m : Nat} {ds : List D} (hn : st[n]? = some (.lst ds)) (hm : st[m]? = some (.lst ds)) (h : ∀ d ∈ ds, Plain d) (hl : ds.length < 900) (wf : st.cs.length = st.length) : wp (f__law_same (k + 3) [.ref n, .ref m] st) fun a u => a = .bl true ∧ Gr st u := by
  rw [same_succ]
  simp [b_law_same, isi, tysOf, eqD_bl, eqD_int, hn, hm, -sd_lst]
  rw [sd_lst hn, sd_lst hm]
  dsimp only
  rw [size_dyn hn, size_dyn hm]
  dsimp only
  rw [wp_ok]
  refine wp_lcI wf ds (fun x => .tup [x, x]) (fun _ => true) (fun _ => .bl true) (by omega) ?_ ?_ ?_
  · intro s i hi hs
    have c1 := hs.get hn
    have c2 := hs.get hm
    constructor
    · simp [c1, c2, hi]
    · simp [c1, c2]
      cases ds[i]? <;> simp
  · intro x hx u hu
    simp [Gr.refl hu.wf]
    exact same_plain k (h x hx) hu.wf
  · intro u hu c
    rw [filter_tt] at c
    simp [all_tt c, hu]
theorem flat_map : ∀ xs : List Str, flatAll (xs.map .str) = some (xs.map .str)
  | [] => rfl
  | x :: xs => by
    have := flat_map xs
    simp [flatAll, flatOf, this]
theorem isIn_tup (x : Str) (xs : List Str) : isIn (.str x) (.tup (xs.map .str)) st = some (decide (x ∈ xs)) := by
  simp only [isIn, flatOf, flat_map]
  congr 1
  rw [Bool.eq_iff_iff]
  simp [inV, eqV]
end
end K00
set_option Elab.async false
set_option linter.all false
set_option maxRecDepth 100000
set_option maxHeartbeats 4000000
namespace Dp
open PySem PySem.Spec PyProof.Rows L2
theorem ins_mapD {α β : Type} (f : α → β) (le : β → β → Bool) (x : α) : ∀ l : List α, ins le (f x) (l.map f) = (ins (fun a b => le (f a) (f b)) x l).map f
  | [] => rfl
  | y :: ys => by
    rw [List.map_cons]
    unfold ins
    by_cases h : le (f x) (f y) = true
    · rw [if_pos h, if_pos h]; rfl
    · rw [if_neg h, if_neg h, List.map_cons, ins_mapD f le x ys]
theorem isort_mapD {α β : Type} (f : α → β) (le : β → β → Bool) : ∀ l : List α, isort le (l.map f) = (isort (fun a b => le (f a) (f b)) l).map f
  | [] => rfl
  | x :: xs => by
    show ins le (f x) (isort le (xs.map f)) = _
    rw [isort_mapD f le xs, ins_mapD]
    rfl
theorem ins_perm {α : Type} (le : α → α → Bool) (x : α) : ∀ l : List α, (ins le x l).Perm (x :: l)
  | [] => List.Perm.refl _
  | y :: ys => by
    unfold ins
    by_cases h : le x y = true
    · rw [if_pos h]
    · rw [if_neg h]
      exact ((ins_perm le x ys).cons y).trans (List.Perm.swap x y ys)
theorem isort_perm {α : Type} (le : α → α → Bool) : ∀ l : List α, (isort le l).Perm l
  | [] => List.Perm.refl _
  | x :: xs => (ins_perm le x (isort le xs)).trans ((isort_perm le xs).cons x)
/-- sorted, of what stands for other things -/
theorem sort_map {α : Type} {st : Store} (g : α → D) (p : α → PyData) (xs : List α) (h : ∀ x ∈ xs, pyOf deep st (g x) = some (p x)) (ha : ∀ x ∈ xs, ∀ y ∈ xs, PySem.W.alike (p x) (p y) = true)
    (hs : sortableB (xs.map p) = true) (hd : ∀ x ∈ xs, (p x).depth ≤ 10) (hl : xs.length < 900) :
    ∃ zs : List α, sortD st (xs.map g) = some (zs.map g) ∧ zs.Perm xs ∧ zs.Pairwise fun a b => PySem.W.dataLt (p b) (p a) = false := by
  refine ⟨isort (fun a b => PySem.W.dataLe false p a b) xs, ?_, isort_perm _ _, ?_⟩
  · unfold sortD
    rw [pyL_map _ g p xs h]
    dsimp only
    have e1 : allAlike (xs.map p) = true := by
      unfold allAlike
      rw [List.all_eq_true]
      intro q hq
      rw [List.all_eq_true]
      intro r hr
      obtain ⟨x, hx, rfl⟩ := List.mem_map.mp hq
      obtain ⟨y, hy, rfl⟩ := List.mem_map.mp hr
      exact ha x hx y hy
    have e2 : ((xs.map p).all fun q => decide (q.depth ≤ 64)) = true := by
      rw [List.all_eq_true]
      intro q hq
      obtain ⟨x, hx, rfl⟩ := List.mem_map.mp hq
      have := hd x hx
      simp
      omega
    rw [e1, hs, e2]
    have hz : (xs.map g).zip (xs.map p) = xs.map fun x => (g x, p x) := by
      clear h ha hs hd hl e1 e2
      induction xs with
      | nil => rfl
      | cons x xs ih => rw [List.map_cons, List.map_cons, List.zip_cons_cons, ih]; rfl
    simp [show xs.length ≤ 100000 by omega]
    rw [hz, isort_mapD (fun x => (g x, p x)), List.map_map]
    rfl
  · have := isort_sorted (le := fun a b => PySem.W.dataLe false p a b) (PySem.W.sortLe_total _ _ _) xs
    refine this.imp fun {a b} hab => ?_
    rw [PySem.W.dataLe_eq] at hab
    simpa using hab
end Dp
set_option Elab.async false
set_option linter.all false
set_option maxRecDepth 100000
set_option maxHeartbeats 4000000
namespace K00
open PySem PySem.Spec PyProof.Rows L2 Dp
theorem lt_of_not {a b : List Nat} (h : ¬ b < a) (hne : a ≠ b) : a < b := Std.lt_of_le_of_ne (List.not_lt.mp h) hne
section
variable {st : Store}
theorem cps_ne {a b : Str} (h : a ≠ b) : a.cps.toList ≠ b.cps.toList := fun e => h (by
  cases a; cases b
  simp at e
  rw [e])
theorem sort_strs {xs : List Str} (hn : xs.Nodup) (hl : xs.length < 900) : ∃ zs : List Str, sortD st (xs.map .str) = some (zs.map .str) ∧ zs.Perm xs ∧ zs.Pairwise fun a b => a.cps.toList < b.cps.toList := by
  obtain ⟨zs, h1, h2, h3⟩ := sort_map (st := st) .str PyData.str xs (fun x _ => rfl) (fun x _ y _ => rfl) (by
    unfold sortableB
    rw [Bool.or_eq_true]
    right
    rw [List.all_eq_true]
    intro q hq
    obtain ⟨x, _, rfl⟩ := List.mem_map.mp hq
    rfl) (fun x _ => by simp [PyData.depth]) hl
  refine ⟨zs, h1, h2, ?_⟩
  have hz : zs.Nodup := h2.nodup_iff.mpr hn
  refine (h3.and hz).imp fun {a b} ⟨hab, hne⟩ => ?_
  rw [PySem.W.dataLt_str] at hab
  exact lt_of_not (by simpa using hab) (cps_ne hne)
theorem sort_says {xs : List Sy} (hn : (xs.map (·.n)).Nodup) (hl : xs.length < 900) : ∃ zs : List Sy, sortD st (xs.map yD) = some (zs.map yD) ∧ zs.Perm xs ∧ zs.Pairwise fun a b => a.n.cps.toList < b.n.cps.toList := by
  obtain ⟨zs, h1, h2, h3⟩ := sort_map (st := st) yD (fun y => .tuple [.str y.n, .str y.a, .str y.b, .int y.l, .int y.d]) xs (fun x _ => by simp [deep, pyOf, yD, pyL]) (fun x _ y _ => rfl) (by
    unfold sortableB
    rw [Bool.or_eq_true]
    left
    rw [List.all_eq_true]
    intro q hq
    obtain ⟨x, _, rfl⟩ := List.mem_map.mp hq
    rfl) (fun x _ => by simp [PyData.depth, PyData.depthAll]) hl
  refine ⟨zs, h1, h2, ?_⟩
  have hz : (zs.map (·.n)).Nodup := (h2.map _).nodup_iff.mpr hn
  have hz' : zs.Pairwise fun a b => a.n ≠ b.n := by
    unfold List.Nodup at hz
    rwa [List.pairwise_map] at hz
  refine (h3.and hz').imp fun {a b} ⟨hab, hne⟩ => ?_
  have e : PyData.eqv (.str b.n) (.str a.n) = false := by
    rw [eqv_str]
    simpa using fun e => hne e.symm
  rw [PySem.W.dataLt_tuple, PySem.W.dataLt_all_no rfl e, PySem.W.dataLt_str] at hab
  exact lt_of_not (by simpa using hab) (cps_ne hne)
/-- ascending, two by two: a sorted row is -/
theorem asc_of {xs : List Str} (h : xs.Pairwise fun a b => a.cps.toList < b.cps.toList) : ascB xs = true := by
  unfold ascB
  rw [List.all_eq_true]
  intro i hi
  have hi' := List.mem_range.mp hi
  have e1 : xs[i]? = some xs[i] := List.getElem?_eq_getElem (by omega)
  have e2 : xs[i + 1]? = some xs[i + 1] := List.getElem?_eq_getElem (by omega)
  rw [e1, e2]
  simpa using List.pairwise_iff_getElem.mp h i (i + 1) (by omega) (by omega) (by omega)
theorem asc_twice {xs : List Str} (h : xs.Pairwise fun a b => a.cps.toList < b.cps.toList) : ascB (xs ++ xs) = decide (xs = []) := by
  cases xs with
  | nil => rfl
  | cons x xs =>
    have : ascB ((x :: xs) ++ (x :: xs)) = false := by
      cases e : ascB ((x :: xs) ++ (x :: xs)) with
      | false => rfl
      | true =>
        unfold ascB at e
        rw [List.all_eq_true] at e
        have h1 := e xs.length (List.mem_range.mpr (by simp))
        have e1 : ((x :: xs) ++ (x :: xs))[xs.length]? = some ((x :: xs)[xs.length]) := by
          rw [List.getElem?_append_left (by simp)]
          exact List.getElem?_eq_getElem _
        have e2 : ((x :: xs) ++ (x :: xs))[xs.length + 1]? = some x := by
          rw [List.getElem?_append_right (by simp)]
          simp
        rw [e1, e2] at h1
        have h2 : (x :: xs)[xs.length].cps.toList < x.cps.toList := by simpa using h1
        exfalso
        by_cases hz : xs.length = 0
        · have : xs = [] := List.length_eq_zero_iff.mp hz
          subst this
          exact List.lt_irrefl _ h2
        · have h3 := List.pairwise_iff_getElem.mp h 0 xs.length (by simp) (by simp) (by omega)
          exact List.lt_irrefl _ (List.lt_trans h3 h2)
    rw [this]
    simp
end
end K00
set_option Elab.async false
set_option linter.all false
set_option maxRecDepth 100000
set_option maxHeartbeats 4000000
namespace Dp
open PySem PySem.Spec PyProof.Rows L2
section
variable {st : Store} {n : Nat} {ds es : List D} {d : D}
theorem call_sorted (h : st[n]? = some (.lst ds)) (hs : sortD st ds = some es) : callOp .sorted [.ref n] st = .ok (.ref st.length) (st.push (.lst es)) := by simp [callOp, h, hs]
@[simp] theorem me_ty (h : st[n]? = some (.lst ds)) : meTy .append (.ref n) st = true := by simp [meTy, h]
theorem me_app (h : st[n]? = some (.lst ds)) (hl : ds.length < 100000) : meOp .append (.ref n) [d] st = .ok .non (st.set n (.lst (ds ++ [d]))) := by simp [meOp, h, hl]
theorem mul_small {i j : Int} (h : -1000 ≤ i ∧ i ≤ 1000) : binOp .Mult (.int i) (.int j) st = .ok (.int (i * j)) st := by
  have : mulOk i j = true := by
    unfold mulOk
    simp only [Bool.or_eq_true, Bool.and_eq_true, decide_eq_true_eq]
    exact .inl ⟨by omega, by omega⟩
  simp [binOp, this]
/-- what is drawn from texts is texts -/
theorem perm_pull {fs rest : List D} {ns : List Str} (h : (fs ++ rest).Perm (ns.map .str)) : ∃ xs ys : List Str, fs = xs.map .str ∧ (xs ++ ys).Perm ns := by
  let inv : D → Str := fun d => match d with
    | .str s => s
    | _ => ⟨#[]⟩
  have key : ∀ l : List D, (∀ d ∈ l, ∃ s, d = .str s) → l = (l.map inv).map .str := fun l hl => by
    rw [List.map_map]
    conv => lhs; rw [← List.map_id l]
    refine List.map_congr_left fun d hd => ?_
    obtain ⟨s, rfl⟩ := hl d hd
    rfl
  have hall : ∀ d ∈ fs ++ rest, ∃ s, d = .str s := fun d hd => by
    obtain ⟨s, _, e⟩ := List.mem_map.mp (h.subset hd)
    exact ⟨s, e.symm⟩
  refine ⟨fs.map inv, rest.map inv, key fs fun d hd => hall d (List.mem_append_left _ hd), ?_⟩
  have := h.map inv
  rw [List.map_append, List.map_map] at this
  have e : ns.map (inv ∘ D.str) = ns := by
    conv => rhs; rw [← List.map_id ns]
    rfl
  rwa [e] at this
end
end Dp
namespace K00
open PySem PySem.Spec PyProof.Rows L2 Dp
section
variable {st : Store} {t m : Nat}
theorem Tub.lt (T : Tub st t m) : t < st.length := by obtain ⟨_, _, _, e, _⟩ := T.at_; exact st_lt e
theorem Tub.gr {s : Store} (T : Tub st t m) (g : Gr st s) : Tub s t m := by
  obtain ⟨wf, a, b, c, e, x⟩ := T
  exact ⟨g.wf, a, b, c, g.get e, x⟩
theorem Tub.less {k : Nat} (T : Tub st t m) (h : k ≤ m) : Tub st t k := by
  obtain ⟨wf, a, b, c, e, x1, x2, x3⟩ := T
  exact ⟨wf, a, b, c, e, x1, x2, by omega⟩
theorem Grow.gr {s : Store} (g : Gr st s) : Grow t st s := ⟨g.len, fun n hn _ => g.old n hn⟩
theorem Grow.get {s : Store} {n : Nat} {c : Cell} (g : Grow t st s) (hn : n ≠ t) (e : st[n]? = some c) : s[n]? = some c := (g.old n (st_lt e) hn).trans e
theorem take_wp {n : Int} (T : Tub st t (m + 1)) (hn : 0 < n) (hn2 : n < 1073741824) : wp (f__law_take [.ref t, .int n] st) fun a s => ∃ r : Int, a = .int r ∧ 0 ≤ r ∧ r < n ∧ Tub s t m ∧ Grow t st s := by
  obtain ⟨r, s, e, h1, h2, h3, h4, h5⟩ := take_ok T hn hn2
  rw [e]
  exact ⟨r, rfl, h1, h2, h3, h4⟩
theorem pick_wp {l much : Nat} {ds : List D} (T : Tub st t (m + much)) (hl : st[l]? = some (.lst ds)) (htl : t ≠ l) (hb : ds.length ≤ 1000) (hm : much ≤ 1000) :
    wp (f__law_pick [.ref t, .ref l, .int (much : Nat)] st) fun a s => ∃ fs rest, a = .ref (st.length + 1) ∧ (fs ++ rest).Perm ds ∧ fs.length = min much ds.length ∧ s[st.length + 1]? = some (.lst fs) ∧ Tub s t m ∧ Grow t st s := by
  obtain ⟨fs, rest, s, e, h1, h2, h3, h4, h5, h6⟩ := pick_ok T hl htl hb hm
  rw [e]
  exact ⟨fs, rest, rfl, h1, h2, h3, h4, h5⟩
theorem ix_ints (vs : List Int) (P : Int → Prop) (h : ∀ v ∈ vs, P v) {r : Int} (h0 : 0 ≤ r) (h1 : r < vs.length) : ∃ v, P v ∧ ixL (vs.map .int) (.int r) st = .ok (.int v) st := by
  have hi : r.toNat < vs.length := by omega
  refine ⟨vs[r.toNat], h _ (List.getElem_mem hi), ?_⟩
  have := ixL_at (st := st) (ds := vs.map .int) (i := r.toNat) (d := .int vs[r.toNat]) (by simp [hi])
  rwa [show ((r.toNat : Nat) : Int) = r by omega] at this
/-- WHEELS as they are drawn -/
structure WsOk (ws : List Wl) : Prop where
  ok : ∀ w ∈ ws, WOk w
  asc : (ws.map (·.1)).Pairwise fun a b => a.cps.toList < b.cps.toList
  nm : ∀ w ∈ ws, w.1 ∈ wNames
  lo : 1 ≤ ws.length
  hi : ws.length ≤ 4
theorem wheels_ok (T : Tub st t (m + 40)) : wp (f__law_wheels [.ref t, .int 4] st) fun a s => ∃ ws, a = .tup (ws.map wD) ∧ WsOk ws ∧ Tub s t m ∧ Grow t st s := by
  have ht := T.lt
  simp [f__law_wheels, b_law_wheels]
  refine wp_mono (take_wp (m := m + 39) T.push (by omega) (by omega)) ?_
  rintro a s1 ⟨r, rfl, h0, h1, T1, G1⟩
  have c1 := G1.get (by omega) st_push_eq
  obtain ⟨v, ⟨v0, v2⟩, e1⟩ := ix_ints (st := s1) [0, 0, 0, 0, 1, 2] (fun v => 0 ≤ v ∧ v ≤ 2) (by decide) h0 h1
  simp only [List.map_cons, List.map_nil] at e1
  simp [ix_lst c1, e1]
  obtain ⟨many, hm, hm1, hm4⟩ : ∃ many : Nat, (if 1 < 4 - v then 4 - v else 1) = ((many : Nat) : Int) ∧ 1 ≤ many ∧ many ≤ 4 := by
    refine ⟨(if 1 < 4 - v then 4 - v else 1).toNat, ?_, ?_, ?_⟩ <;> split <;> omega
  rw [hm]
  have T2 : Tub ((s1.push (.lst [])).push (.lst (wNames.map .str))) t ((m + 20) + many) := ((T1.less (by omega)).push).push
  refine wp_mono (pick_wp T2 (l := s1.length + 1) (ds := wNames.map .str) st_push_eq (by have := T1.lt; omega) (by decide) (by omega)) ?_
  rintro a s2 ⟨fs, rest, rfl, hp, hf, c2, T3, G2⟩
  obtain ⟨xs, ys, rfl, hp2⟩ := perm_pull hp
  have hxl : xs.length = many := by
    rw [List.length_map] at hf
    have : wNames.length = 7 := rfl
    simp at hf
    omega
  have hnd : xs.Nodup := (List.nodup_append.mp (hp2.nodup_iff.mpr (by decide +kernel))).1
  obtain ⟨zs, hs, hz, hlt⟩ := sort_strs (st := s2) hnd (by omega)
  have hzl : zs.length = many := hz.length_eq.trans hxl
  rw [call_sorted c2 hs]
  simp [src_ref st_push_eq]
  have hF : t < s1.length := T1.lt
  have cF : s2[s1.length]? = some (.lst []) := G2.get (by omega) ((st_push_lt (by show s1.length < s1.length + 1; omega)).trans st_push_eq)
  have hN : s1.length < s2.length := st_lt cF
  have Gst : Grow t st s2 := ((Grow.push.trans G1).trans ((Grow.push (t := t)).trans Grow.push)).trans G2
  refine wp_for (zs.map .str) (fun i e s => i ≤ many ∧ ∃ (x4 x5 : Option D) (ws : List Wl), e = [some (.ref t), some (.int 4), some (.int (many : Nat)), some (.ref s1.length), x4, x5] ∧ s[s1.length]? = some (.lst (ws.map wD)) ∧
    s[s2.length]? = some (.lst (zs.map .str)) ∧ ws.map (·.1) = zs.take i ∧ (∀ w ∈ ws, WOk w) ∧ Tub s t (m + 3 * (many - i)) ∧ Grow t st s) (by simp; omega) ?_ ?_ ?_ ?_
  · rintro i e s ⟨hi, x4, x5, ws, rfl, h1, h2, h3, h4, h5, h6⟩
    exact ⟨dyn_good h2, dyn_at' h2⟩
  · exact ⟨Nat.zero_le _, none, none, [], rfl, (st_push_lt hN).trans cF, st_push_eq, rfl, (fun w hw => by cases hw), T3.push.less (by omega), Gst.trans Grow.push⟩
  · rintro i d e s hd ⟨hi, x4, x5, ws, rfl, h1, h2, h3, h4, h5, h6⟩
    rw [List.getElem?_map] at hd
    obtain ⟨z, hzi, rfl⟩ := Option.map_eq_some_iff.mp hd
    have hi' : i < many := by have := (List.getElem?_eq_some_iff.mp hzi).1; omega
    rw [show m + 3 * (many - i) = (m + 3 * (many - (i + 1))) + 2 + 1 by omega] at h5
    simp
    have lt1 := st_lt h1
    have lt2 := st_lt h2
    have lt5 := h5.lt
    refine wp_mono (take_wp h5.push (by omega) (by omega)) ?_
    rintro a u1 ⟨r1, rfl, a0, a1, U1, K1⟩
    have d1 := K1.get (by omega) st_push_eq
    obtain ⟨rn, ⟨rn0, rn2⟩, e2⟩ := ix_ints (st := u1) [1, 2, 3, 4, 4, 5, 6, 6] (fun v => 1 ≤ v ∧ v ≤ 6) (by decide) a0 a1
    simp only [List.map_cons, List.map_nil] at e2
    simp [ix_lst d1, e2]
    have f1 := K1.get (n := s1.length) (by omega) ((st_push_lt lt1).trans h1)
    have f2 := K1.get (n := s2.length) (by omega) ((st_push_lt lt2).trans h2)
    simp [me_ty f1]
    refine wp_mono (take_wp U1 (by split <;> omega) (by split <;> omega)) ?_
    rintro a u2 ⟨r2, rfl, b0, b1, U2, K2⟩
    refine wp_mono (take_wp U2 (by omega) (by omega)) ?_
    rintro a u3 ⟨r3, rfl, g0, g1, U3, K3⟩
    rw [mul_small ⟨by omega, by split at b1 <;> omega⟩]
    simp
    have f3 := K3.get (n := s1.length) (by omega) (K2.get (by omega) f1)
    have f4 := K3.get (n := s2.length) (by omega) (K2.get (by omega) f2)
    have wl : ws.length = i := by have := congrArg List.length h3; simp at this; omega
    rw [me_app f3 (by simp; omega)]
    have hlt3 := st_lt f3
    have hm01 : r2 * r3 = 0 ∨ r2 * r3 = r2 := by
      rcases (by omega : r3 = 0 ∨ r3 = 1) with e | e
      · left; rw [e, Int.mul_zero]
      · right; rw [e, Int.mul_one]
    have hw : WOk (z, rn, 1 + r2 * r3) := ⟨good_w z (hp2.subset (List.mem_append_left _ (hz.subset (List.mem_of_getElem? hzi)))), by show 1 ≤ 1 + r2 * r3; rcases hm01 with e | e <;> rw [e] <;> omega, by show 1 + r2 * r3 ≤ rn; split at b1 <;> rcases hm01 with e | e <;> rw [e] <;> omega⟩
    refine ⟨hi', ws ++ [(z, rn, 1 + r2 * r3)], ?_, ?_, ?_, ?_, ?_, ?_⟩
    · rw [List.map_append]; exact st_set_self U3.wf hlt3
    · exact (st_set_ne (by omega) hlt3).trans f4
    · rw [List.map_append, h3, List.take_succ, hzi]; rfl
    · intro a b c hmem
      rcases List.mem_append.mp hmem with hmem | hmem
      · exact h4 _ hmem
      · rw [List.mem_singleton.mp hmem]; exact hw
    · obtain ⟨wf, x, y, w, e, q⟩ := U3
      exact ⟨wf_set wf, x, y, w, (st_set_ne (by omega) hlt3).trans e, q⟩
    · have G3 := ((h6.trans Grow.push).trans K1).trans (K2.trans K3)
      have l1 : st.length < s1.length := G1.len
      exact ⟨G3.len, fun n hn hnt => (st_set_ne (by omega) hlt3).trans (G3.old n hn hnt)⟩
  · rintro e s ⟨hi, x4, x5, ws, rfl, h1, h2, h3, h4, h5, h6⟩
    simp [items_ref h1]
    rw [List.length_map, List.take_length] at h3
    refine ⟨ws, rfl, ⟨h4, by rw [h3]; exact hlt, ?_, ?_, ?_⟩, h5.less (by omega), h6⟩
    · intro w hw
      have : w.1 ∈ zs := by rw [← h3]; exact List.mem_map_of_mem hw
      exact hp2.subset (List.mem_append_left _ (hz.subset this))
    · have := congrArg List.length h3; simp at this; omega
    · have := congrArg List.length h3; simp at this; omega
end
end K00
set_option Elab.async false
set_option linter.all false
set_option maxRecDepth 100000
set_option maxHeartbeats 4000000
namespace K00
open PySem PySem.Spec PyProof.Rows L2 Dp
section
variable {st : Store} {t m : Nat}
theorem Tub.set {n : Nat} {c : Cell} (T : Tub st t m) (hn : n ≠ t) (hl : n < st.length) : Tub (st.set n c) t m := by
  obtain ⟨wf, x, y, w, e, q⟩ := T
  exact ⟨wf_set wf, x, y, w, (st_set_ne hn hl).trans e, q⟩
/-- a comprehension that draws a number for each -/
theorem wp_lcT {α : Type} {src : Src} {bt : D → Store → Option Slt} {elt : EM} {Q : D → Store → Prop} (xs : List α) (g : α → D) (k : α → Str) (T : Tub st t (m + xs.length)) (hl : xs.length < 900)
    (hg : ∀ s i, Grow t st s → src.good s i = true ∧ src.at s i = (xs[i]?).map g)
    (step : ∀ x ∈ xs, ∀ s j, Tub s t (j + 1) → Grow t st s → ∃ env2, bt (g x) s = some env2 ∧ wp (elt env2 s) fun y s3 => ∃ v : Int, y = bD (k x, v) ∧ Tub s3 t j ∧ Grow t s s3)
    (hQ : ∀ s (ps : List (Str × Int)), ps.map (·.1) = xs.map k → s[st.length]? = some (.lst (ps.map bD)) → Tub s t m → Grow t st s → Q (.ref st.length) s) :
    wp (lcLoop st.length src bt mYes elt turns 0 (st.push (.lst []))) Q := by
  have ht := T.lt
  have key : ∀ (n i : Nat) (s : Store) (ps : List (Str × Int)), i ≤ xs.length → xs.length < n + i → Grow t st s → Tub s t (m + (xs.length - i)) → ps.map (·.1) = (xs.take i).map k → s[st.length]? = some (.lst (ps.map bD)) → wp (lcLoop st.length src bt mYes elt n i s) Q := by
    intro n
    induction n with
    | zero => intro i s ps h1 h2; omega
    | succ n ih =>
      intro i s ps h1 h2 hG hT hp hc
      unfold lcLoop
      rw [(hg s i hG).1, (hg s i hG).2]
      dsimp only
      cases hd : xs[i]? with
      | none =>
        have : i = xs.length := by have := List.getElem?_eq_none_iff.mp hd; omega
        subst this
        rw [List.take_length] at hp
        exact hQ s ps hp hc (hT.less (by omega)) hG
      | some d =>
        have hi : i < xs.length := (List.getElem?_eq_some_iff.mp hd).1
        rw [show m + (xs.length - i) = (m + (xs.length - (i + 1))) + 1 by omega] at hT
        obtain ⟨env2, e1, hw⟩ := step d (List.mem_of_getElem? hd) s _ hT hG
        obtain ⟨y, s3, e3, ⟨v, hy, T3, g3⟩⟩ := wp_ex hw
        have htk : xs.take (i + 1) = xs.take i ++ [d] := by rw [List.take_succ, hd]; rfl
        rw [Option.map_some]
        dsimp only
        rw [e1]
        dsimp only
        show wp (Out.bind (Out.ok true s) _) Q
        rw [ok_bind]
        dsimp only
        rw [e3]
        show wp (Out.bind (Out.ok y s3) _) Q
        rw [ok_bind]
        have hc3 := g3.get (by omega) hc
        rw [hc3]
        have hpl : ps.length = i := by have := congrArg List.length hp; simp at this; omega
        dsimp only
        rw [if_pos (show _ < big by show _ < 100000; rw [List.length_map]; omega)]
        have hs3 : st.length < s3.length := st_lt hc3
        refine ih (i + 1) _ (ps ++ [(k d, v)]) (by omega) (by omega) ?_ (T3.set (by omega) hs3) ?_ ?_
        · have := hG.trans g3
          exact ⟨this.len, fun n hn hnt => (st_set_ne (by omega) hs3).trans (this.old n hn hnt)⟩
        · rw [htk, List.map_append, List.map_append, hp]
          rfl
        · rw [List.map_append, hy]
          exact st_set_self T3.wf hs3
  exact key turns 0 _ [] (Nat.zero_le _) (show xs.length < 2000 + 0 by omega) Grow.push (T.push) rfl st_push_eq
theorem lbegins_ok {ws : List Wl} {ys : List Sy} (T : Tub st t (m + ws.length)) (hl : ws.length < 900) : wp (f__law_begins [.ref t, millD ws ys] st) fun a s => ∃ ps : List (Str × Int), a = .tup (ps.map bD) ∧ ps.map (·.1) = ws.map (·.1) ∧ Tub s t m ∧ Grow t st s := by
  simp [f__law_begins, b_law_begins, millD]
  refine wp_lcT ws wD (·.1) T hl (fun s i _ => ⟨rfl, by simp⟩) ?_ ?_
  · intro x hx s j hT hG
    simp [wD]
    refine wp_mono (take_wp hT (by omega) (by omega)) ?_
    rintro a u ⟨r, rfl, h0, h1, T1, G1⟩
    exact ⟨⟨r - 6, rfl⟩, T1, G1⟩
  · intro s ps hp hc hT hG
    simp [items_ref hc]
    exact ⟨ps, rfl, hp, hT, hG⟩
theorem cut_take {ds : List D} {k : Int} (h : 0 ≤ k) : Dp.cutD ds none (some k) = ds.take k.toNat := by
  unfold Dp.cutD
  simp only [HT.sIx]
  rw [if_neg (by omega), List.drop_zero, Nat.sub_zero, List.take_eq_take_iff]
  omega
theorem cut_drop {ds : List D} {k : Int} (h : 0 ≤ k) : Dp.cutD ds (some k) none = ds.drop k.toNat := by
  unfold Dp.cutD
  simp only [HT.sIx]
  rw [if_neg (by omega)]
  by_cases hk : k.toNat ≤ ds.length
  · rw [Nat.min_eq_left hk]
    exact List.take_of_length_le (by rw [List.length_drop]; omega)
  · rw [Nat.min_eq_right (by omega), List.drop_of_length_le (Nat.le_refl _), List.drop_of_length_le (by omega)]
    simp
end
end K00
set_option Elab.async false
set_option linter.all false
set_option maxRecDepth 100000
set_option maxHeartbeats 4000000
namespace K00
open PySem PySem.Spec PyProof.Rows L2 Dp
section
variable {st : Store} {t m : Nat}
theorem sl_ref {n : Nat} {ds : List D} {lo hi : Option Int} (h : st[n]? = some (.lst ds)) : slOp (.ref n) lo hi st = .ok (.ref st.length) (st.push (.lst (Dp.cutD ds lo hi))) := by simp [slOp, h]
theorem noS_first (x : Str) (h : goodS x = true) : noS ≠ x := fun e => by
  rw [← e] at h
  exact absurd h (by decide +kernel)
theorem WsOk.nd {ws : List Wl} (W : WsOk ws) : (endsOf ws).Nodup := by
  have h2 : (ws.map (·.1)).Pairwise (· ≠ ·) := W.asc.imp fun {a b} hab e => by rw [e] at hab; exact List.lt_irrefl _ hab
  refine List.nodup_cons.mpr ⟨fun h => ?_, h2⟩
  obtain ⟨w, hw, e⟩ := List.mem_map.mp h
  exact noS_first w.1 (W.ok w hw).g e.symm
theorem ends_str {ws : List Wl} (W : WsOk ws) : ∀ x ∈ endsOf ws, PyData.strOk x = true := fun x hx => by
  rcases List.mem_cons.mp hx with rfl | h
  · decide +kernel
  · obtain ⟨w, hw, rfl⟩ := List.mem_map.mp h
    exact (goodS_ok (W.ok w hw).g).1
/-- a MILL and BEGINS as they are drawn -/
structure Drawn (ws : List Wl) (ys : List Sy) (bs : List (Str × Int)) : Prop where
  w : WsOk ws
  he : ws.map (·.1) = bs.map (·.1)
  y : ∀ y ∈ ys, YOk (endsOf ws) y
  asc : (ys.map (·.n)).Pairwise fun a b => a.cps.toList < b.cps.toList
  ly : ys.length ≤ 6
theorem pair_ok (T : Tub st t (m + 100)) : wp (f__law_pair [.ref t, .int 4, .int 6] st) fun a s => ∃ ws ys bs, a = .tup [millD ws ys, .tup (bs.map bD)] ∧ Drawn ws ys bs ∧ Tub s t m ∧ Grow t st s := by
  have ht := T.lt
  simp [f__law_pair, b_law_pair]
  refine wp_mono (wheels_ok (m := m + 60) T) ?_
  rintro a s1 ⟨ws, rfl, W, T1, G1⟩
  simp
  refine wp_lcM (st := s1.push (.lst [.str ⟨#[]⟩])) (wf_push T1.wf) ws wD (fun _ => true) (fun w => .str w.1) (by have := W.hi; omega) (fun s i _ => ⟨rfl, by simp⟩) ?_ ?_
  · intro w hw s hs
    simp [wD, Gr.refl hs.wf]
  intro s2 g2 c2
  rw [filter_tt] at c2
  have c2' : s2[s1.length]? = some (.lst [.str ⟨#[]⟩]) := g2.get st_push_eq
  have hends : ([.str ⟨#[]⟩] ++ ws.map fun w => D.str w.1) = (endsOf ws).map .str := by simp [endsOf, noS]
  rw [add_lst c2' c2 (by have := W.hi; simp; omega), hends]
  have hel : (endsOf ws).length ≤ 5 := by have := W.hi; simp [endsOf]; omega
  try simp only [wp_ok]
  have T2 : Tub s2 t (m + 60) := (T1.push).gr g2
  have G2 : Grow t s1 s2 := (Grow.push).trans (Grow.gr g2)
  have cE : ((s2.push (.lst ((endsOf ws).map .str))).push (.lst []))[s2.length]? = some (.lst ((endsOf ws).map .str)) := (st_push_lt (by show s2.length < s2.length + 1; omega)).trans st_push_eq
  rw [src_ref cE]
  try simp only [wp_ok]
  refine wp_lcT (m := m + 50) (endsOf ws) .str id ((T2.push.push).less (by omega)) (by omega) (fun s i hG => ?_) ?_ ?_
  · have c := hG.get (by have := T2.lt; omega) cE
    exact ⟨dyn_good c, by rw [dyn_at' c, List.getElem?_map]⟩
  · intro x hx s j hT hG
    refine ⟨_, rfl, ?_⟩
    have ho : PyData.strOk x = true := by
      rcases List.mem_cons.mp hx with rfl | h
      · decide +kernel
      · obtain ⟨w, hw, rfl⟩ := List.mem_map.mp h
        exact (goodS_ok (W.ok w hw).g).1
    by_cases hx0 : x = ⟨#[]⟩
    · have hno : PyData.strOk ⟨#[]⟩ = true := by decide +kernel
      simp [hx0, eqD_str hno hno]
      exact ⟨⟨0, rfl⟩, hT.less (by omega), Grow.gr (Gr.refl hT.wf)⟩
    · simp [eqD_str ho (show PyData.strOk ⟨#[]⟩ = true by decide +kernel), hx0]
      refine wp_mono (take_wp hT (by omega) (by omega)) ?_
      rintro a u ⟨r, rfl, h0, h1, T1, G1⟩
      exact ⟨⟨r - 4, rfl⟩, T1, G1⟩
  intro s4 ps hps c4 T4 G4
  rw [call_dict c4 (pairs_map ps)]
  rw [List.map_id] at hps
  have hnd : (endsOf ws).Nodup := W.nd
  generalize hD : mergeD [] (ps.map fun b => ((.inr b.1 : Key), D.int b.2)) = ks
  have hk : ∀ e ∈ endsOf ws, ∃ v : Int, valD ks (.inr e) = some (.int v) := by
    intro e he
    rw [← hps] at he
    obtain ⟨p, hp, rfl⟩ := List.mem_map.mp he
    refine ⟨p.2, ?_⟩
    rw [← hD]
    refine valD_merge ?_ (List.mem_map.mpr ⟨p, hp, rfl⟩)
    rw [List.map_map]
    have hn2 : (ps.map (·.1)).Nodup := by rw [hps]; exact hnd
    have := List.Pairwise.map (S := (· ≠ ·)) (f := fun s : Str => (.inr s : Key)) (fun a b hab h => hab (by simpa using h)) hn2
    rw [List.map_map] at this
    exact this
  try simp only [wp_ok]
  have hlt2 := T2.lt
  have l24 : s2.length + 2 < s4.length := st_lt c4
  have T5 : Tub ((s4.push (.dct ks)).push (.lst (yNames.map .str))) t ((m + 44) + 6) := (T4.push).push
  refine wp_mono (pick_wp (much := 6) T5 (l := s4.length + 1) (ds := yNames.map .str) st_push_eq (by omega) (by decide) (by omega)) ?_
  rintro a s6 ⟨fs, rest, rfl, hp6, hf6, c6, T6, G6⟩
  obtain ⟨xs, ys0, rfl, hpy⟩ := perm_pull hp6
  simp only [st_len_push] at c6
  simp only [st_len_push]
  generalize hM : s4.length + 1 + 1 + 1 = M at c6 ⊢
  refine wp_mono (take_wp (m := m + 43) T6.push (by omega) (by omega)) ?_
  rintro a s7 ⟨r7, rfl, r70, r71, T7, G7⟩
  have hlt6 := T6.lt
  have c7 := G7.get (by omega) st_push_eq
  obtain ⟨v, v0, e7⟩ := ix_ints (st := s7) [0, 0, 0, 1, 1, 2, 9] (fun v => 0 ≤ v) (by decide) r70 r71
  simp only [List.map_cons, List.map_nil] at e7
  have l46 : M < s6.length := st_lt c6
  have c67 : s7[M]? = some (.lst (xs.map .str)) := G7.get (by omega) ((st_push_lt l46).trans c6)
  rw [ix_lst c7, e7]
  simp only [wp_ok, Dp.sub_int, call_max]
  obtain ⟨k, hk0⟩ : ∃ k : Nat, (if 6 - v > 0 then 6 - v else 0) = ((k : Nat) : Int) := ⟨(if 6 - v > 0 then 6 - v else 0).toNat, by split <;> omega⟩
  rw [hk0]
  have hsl : slOp (.ref M) none (some (k : Int)) s7 = .ok (.ref s7.length) (s7.push (.lst ((xs.take k).map .str))) := by
    rw [sl_ref c67, cut_take (show (0 : Int) ≤ k by omega), ← List.map_take]
    rfl
  rw [hsl]
  simp only [wp_ok]
  rw [src_ref st_push_eq]
  simp only [wp_ok]
  generalize hns : xs.take k = ns
  have hnsl : ns.length ≤ 6 := by
    rw [List.length_map] at hf6
    have : (yNames.map D.str).length = 9 := rfl
    rw [this] at hf6
    rw [← hns, List.length_take]
    omega
  have hnsm : ∀ x ∈ ns, x ∈ yNames := fun x hx => hpy.subset (List.mem_append_left _ (List.mem_of_mem_take (by rw [hns]; exact hx)))
  have hnsn : ns.Nodup := by
    rw [← hns]
    exact (List.nodup_append.mp (hpy.nodup_iff.mpr (by decide +kernel))).1.sublist (List.take_sublist _ _)
  -- the cells
  have l7 : M < s7.length := st_lt c67
  have cE7 : s7[s2.length]? = some (.lst ((endsOf ws).map .str)) := G7.get (by omega) ((st_push_lt (by omega)).trans (G6.get (by omega) ((st_push_lt (by show s2.length < s4.length + 1; omega)).trans ((st_push_lt (by omega)).trans (G4.get (by omega) cE)))))
  have cF4 : s4[s2.length + 1]? = some (.lst []) := G4.get (by omega) st_push_eq
  have cF7 : s7[s2.length + 1]? = some (.lst []) := G7.get (by omega) ((st_push_lt (by omega)).trans (G6.get (by omega) ((st_push_lt (by show s2.length + 1 < s4.length + 1; omega)).trans ((st_push_lt (by omega)).trans cF4))))
  have cT7 : s7[s4.length]? = some (.dct ks) := G7.get (by omega) ((st_push_lt (by omega)).trans (G6.get (by omega) ((st_push_lt (by show s4.length < s4.length + 1; omega)).trans st_push_eq)))
  have G27 : Grow t st s7 := (((((G1.trans G2).trans (Grow.push.trans Grow.push)).trans G4).trans (Grow.push.trans Grow.push)).trans G6).trans (Grow.push.trans G7)
  have lst2 : st.length ≤ s2.length := (G1.trans G2).len
  have hk' : ∀ e ∈ endsOf ws, ∀ (u : Store), u[s4.length]? = some (.dct ks) → ∃ v : Int, ixOp (.ref s4.length) (.str e) u = .ok (.int v) u := by
    intro e he u hu
    obtain ⟨v, hv⟩ := hk e he
    exact ⟨v, ix_dct hu keyOf_str hv⟩
  refine wp_for (ns.map .str) (fun i e s => i ≤ ns.length ∧ ∃ (x6 x10 x11 x12 x13 : Option D) (ys : List Sy), e = [some (.ref t), some (.int 4), some (.int 6), some (.tup (ws.map wD)), some (.ref s4.length), some (.ref M), x6, none, some (.ref s2.length), some (.ref (s2.length + 1)), x10, x11, x12, x13, none] ∧
    s[s2.length + 1]? = some (.lst (ys.map yD)) ∧ s[s2.length]? = some (.lst ((endsOf ws).map .str)) ∧ s[s4.length]? = some (.dct ks) ∧ s[s7.length]? = some (.lst (ns.map .str)) ∧ ys.map (·.n) = ns.take i ∧ (∀ y ∈ ys, YOk (endsOf ws) y) ∧ Tub s t (m + 6 * (ns.length - i)) ∧ Grow t st s) (by simp; omega) ?_ ?_ ?_ ?_
  · rintro i e s ⟨hi, x6, x10, x11, x12, x13, ys, rfl, h1, h2, h3, h4, h5, h6, h7, h8⟩
    exact ⟨dyn_good h4, dyn_at' h4⟩
  · exact ⟨Nat.zero_le _, none, none, none, none, none, [], rfl, (st_push_lt (by omega)).trans cF7, (st_push_lt (by omega)).trans cE7, (st_push_lt (by omega)).trans cT7, st_push_eq, rfl, (fun y hy => by cases hy), T7.push.less (by omega), G27.trans Grow.push⟩
  · rintro i d e s hd ⟨hi, x6, x10, x11, x12, x13, ys, rfl, h1, h2, h3, h4, h5, h6, h7, h8⟩
    rw [List.getElem?_map] at hd
    obtain ⟨z, hzi, rfl⟩ := Option.map_eq_some_iff.mp hd
    have hi' : i < ns.length := (List.getElem?_eq_some_iff.mp hzi).1
    rw [show m + 6 * (ns.length - i) = ((m + 6 * (ns.length - (i + 1))) + 4) + 2 by omega] at h7
    simp
    have l1 := st_lt h1
    have l4 := st_lt h4
    refine wp_mono (pick_wp (much := 2) h7 h2 (by omega) (by rw [List.length_map]; omega) (by omega)) ?_
    rintro a u1 ⟨fs, rest, rfl, hp, hf, d1, U1, K1⟩
    obtain ⟨pq, pr, rfl, hpq⟩ := perm_pull hp
    have hpl : pq.length = 2 := by
      have := W.lo
      rw [List.length_map, List.length_map] at hf
      have he : (endsOf ws).length = ws.length + 1 := by simp [endsOf]
      omega
    match pq, hpl with
    | [p, q], _ =>
      have hpq2 := (List.nodup_append.mp (hpq.nodup_iff.mpr hnd)).1
      have hpne : p ≠ q := fun e => by subst e; simp at hpq2
      have hpm : p ∈ endsOf ws := hpq.subset (List.mem_append_left _ List.mem_cons_self)
      have hqm : q ∈ endsOf ws := hpq.subset (List.mem_append_left _ (List.mem_cons_of_mem _ List.mem_cons_self))
      simp [items_ref d1]
      have lu := st_lt d1
      have e1F := K1.get (n := s2.length + 1) (by omega) h1
      have e1E := K1.get (n := s2.length) (by omega) h2
      have e1T := K1.get (n := s4.length) (by omega) h3
      have e1N := K1.get (n := s7.length) (by omega) h4
      refine wp_mono (take_wp U1.push (by omega) (by omega)) ?_
      rintro a u2 ⟨r2, rfl, a20, a21, U2, K2⟩
      have lu2 := K2.len
      have d2 := K2.get (by omega) st_push_eq
      obtain ⟨dl, ⟨dl0, dl6⟩, ed⟩ := ix_ints (st := u2) [0, 1, 2, 2, 3, 3, 4, 4, 6, 6] (fun v => 0 ≤ v ∧ v ≤ 6) (by decide) a20 a21
      simp only [List.map_cons, List.map_nil] at ed
      have e2F := K2.get (n := s2.length + 1) (by omega) ((st_push_lt (st_lt e1F)).trans e1F)
      have e2E := K2.get (n := s2.length) (by omega) ((st_push_lt (st_lt e1E)).trans e1E)
      have e2T := K2.get (n := s4.length) (by omega) ((st_push_lt (st_lt e1T)).trans e1T)
      have e2N := K2.get (n := s7.length) (by omega) ((st_push_lt (st_lt e1N)).trans e1N)
      obtain ⟨vq, ivq⟩ := hk' q hqm u2 e2T
      obtain ⟨vp, ivp⟩ := hk' p hpm u2 e2T
      rw [ix_lst d2, ed]
      simp only [wp_ok, ivq, ivp, Dp.sub_int]
      refine wp_mono (take_wp U2 (by omega) (by omega)) ?_
      rintro a u3 ⟨r3, rfl, a30, a31, U3, K3⟩
      simp only [wp_ok, Dp.sub_int]
      rw [mul_small ⟨by omega, by omega⟩]
      simp only [wp_ok, Dp.add_int]
      have e3F := K3.get (n := s2.length + 1) (by omega) e2F
      simp [me_ty e3F]
      refine wp_mono (take_wp U3 (by omega) (by omega)) ?_
      rintro a u4 ⟨r4, rfl, a40, a41, U4, K4⟩
      refine wp_mono (take_wp U4 (by omega) (by omega)) ?_
      rintro a u5 ⟨r5, rfl, a50, a51, U5, K5⟩
      simp [eqD_int]
      rw [mul_small ⟨by omega, by omega⟩]
      simp only [wp_ok, Dp.add_int]
      have K25 := (K3.trans K4).trans K5
      have e5F := K25.get (n := s2.length + 1) (by omega) e2F
      have e5E := K25.get (n := s2.length) (by omega) e2E
      have e5T := K25.get (n := s4.length) (by omega) e2T
      have e5N := K25.get (n := s7.length) (by omega) e2N
      have yl : ys.length = i := by have := congrArg List.length h5; simp at this; omega
      rw [me_app e5F (by simp; omega)]
      have lF := st_lt e5F
      generalize hlate : vq - vp + dl * (r3 - 2) + r4 * _ = late
      have hy : YOk (endsOf ws) ⟨z, p, q, late, dl⟩ := ⟨good_y z (hnsm z (List.mem_of_getElem? hzi)), hpne, hpm, hqm, ends_str W p hpm, ends_str W q hqm, dl0⟩
      refine ⟨hi', ys ++ [⟨z, p, q, late, dl⟩], ?_, ?_, ?_, ?_, ?_, ?_, ?_, ?_⟩
      · rw [List.map_append]; exact st_set_self U5.wf lF
      · exact (st_set_ne (by omega) lF).trans e5E
      · exact (st_set_ne (by omega) lF).trans e5T
      · exact (st_set_ne (by omega) lF).trans e5N
      · rw [List.map_append, h5, List.take_succ, hzi]; rfl
      · intro y hmem
        rcases List.mem_append.mp hmem with hmem | hmem
        · exact h6 y hmem
        · rw [List.mem_singleton.mp hmem]; exact hy
      · exact U5.set (by omega) lF
      · have G := ((h8.trans K1).trans Grow.push).trans (K2.trans K25)
        exact ⟨G.len, fun n hn hnt => (st_set_ne (by omega) lF).trans (G.old n hn hnt)⟩
  · rintro e s ⟨hi, x6, x10, x11, x12, x13, ys, rfl, h1, h2, h3, h4, h5, h6, h7, h8⟩
    rw [List.length_map, List.take_length] at h5
    simp
    let tv : Str → Int := fun e => match valD ks (.inr e) with
      | some (.int v) => v
      | _ => 0
    have htv : ∀ e ∈ endsOf ws, ∀ (u : Store), u[s4.length]? = some (.dct ks) → ixOp (.ref s4.length) (.str e) u = .ok (.int (tv e)) u := by
      intro e he u hu
      obtain ⟨v, hv⟩ := hk e he
      have : tv e = v := by show (match valD ks (.inr e) with | some (.int v) => v | _ => 0) = v; rw [hv]
      rw [this]
      exact ix_dct hu keyOf_str hv
    have lF := st_lt h1
    have lN := st_lt h4
    refine wp_lcM h7.wf ws wD (fun _ => true) (fun w => bD (w.1, tv w.1)) (by have := W.hi; omega) (fun s i _ => ⟨rfl, by simp⟩) ?_ ?_
    · intro w hw u hu
      have hwe : w.1 ∈ endsOf ws := List.mem_cons_of_mem _ (List.mem_map_of_mem hw)
      simp [wD, htv w.1 hwe u (hu.get h3), bD, Gr.refl hu.wf]
    intro u1 g1 d1
    rw [filter_tt] at d1
    rw [items_ref d1]
    simp only [wp_ok]
    have hyn : (ys.map (·.n)).Nodup := by rw [h5]; exact hnsn
    have hyl : ys.length ≤ 6 := by have := congrArg List.length h5; simp at this; omega
    obtain ⟨zs, hs, hz, hlt⟩ := sort_says (st := u1) hyn (by omega)
    rw [call_sorted (g1.get h1) hs]
    simp only [wp_ok]
    rw [items_ref st_push_eq]
    refine ⟨ws, zs, ws.map fun w => (w.1, tv w.1), ⟨rfl, by rw [List.map_map]; rfl⟩, ⟨W, by rw [List.map_map]; rfl, fun y hy => h6 y (hz.subset hy), ?_, by rw [hz.length_eq]; exact hyl⟩, ((h7.gr g1).push).less (by omega), (h8.trans (Grow.gr g1)).trans Grow.push⟩
    rw [List.pairwise_map]
    exact hlt
end
end K00
set_option Elab.async false
set_option linter.all false
set_option maxRecDepth 100000
set_option maxHeartbeats 4000000
namespace K00
open PySem PySem.Spec PyProof.Rows L2 Dp
theorem add_tup {xs ys : List D} {st : Store} : binOp .Add (.tup xs) (.tup ys) st = if xs.length + ys.length ≤ 100000 then .ok (.tup (xs ++ ys)) st else .bad := rfl
theorem sl_tup {ds : List D} {lo hi : Option Int} {st : Store} : slOp (.tup ds) lo hi st = .ok (.tup (Dp.cutD ds lo hi)) st := rfl
theorem mul_two {xs : List D} {st : Store} (h : xs.length ≤ 1000) : binOp .Mult (.tup xs) (.int 2) st = .ok (.tup (xs ++ xs)) st := by
  cases xs with
  | nil => simp [binOp]
  | cons x xs =>
    have : xs.length ≤ 999 := by simp at h; omega
    simp [binOp, this, List.replicate]
theorem wp_seq {x y : StM} {env : Slt} {st : Store} {Q : Fl → Store → Prop} (h : wp (x env st) fun f s => match f with
    | .nx e => wp (y e s) Q
    | f => Q f s) : wp (sSeq x y env st) Q := by
  rw [sSeq_eq, wp_bind]
  refine wp_mono h fun f s hf => ?_
  cases f <;> exact hf
/-- a loop that is never left early -/
theorem wp_forN {src : Src} {t : Tg} {body : StM} {env : Slt} {st : Store} {Q : Fl → Store → Prop} (ds : List D) (Iv : Nat → Slt → Store → Prop) (hl : ds.length < 1000)
    (hg : ∀ i e s, Iv i e s → src.good s i = true ∧ src.at s i = ds[i]?) (h0 : Iv 0 env st)
    (step : ∀ i d e s, ds[i]? = some d → Iv i e s → ∃ e2, bindTg t d e s = some e2 ∧ wp (body e2 s) fun f s2 => match f with
      | .nx e3 => Iv (i + 1) e3 s2
      | _ => False)
    (hQ : ∀ e s, Iv ds.length e s → Q (.nx e) s) : wp (forLoop src t body turns 0 env st) Q := by
  refine wp_for ds Iv hl hg h0 (fun i d e s hd hI => ?_) hQ
  obtain ⟨e2, h1, h2⟩ := step i d e s hd hI
  refine ⟨e2, h1, wp_mono h2 fun f s2 hf => ?_⟩
  cases f with
  | nx e3 => exact hf
  | rt d => exact hf.elim
  | bk e3 => exact hf.elim
  | ct e3 => exact hf.elim
section
variable {st : Store} {t m : Nat}
theorem Drawn.fit {ws : List Wl} {ys : List Sy} {bs : List (Str × Int)} (D : Drawn ws ys bs) : Fit ws ys bs := by
  have he : noS :: bs.map (·.1) = endsOf ws := by rw [← D.he]; rfl
  have hl : ws.length = bs.length := by have := congrArg List.length D.he; simpa using this
  have hi := D.w.hi
  have ly := D.ly
  exact ⟨by rw [he]; exact D.w.nd, D.he, fun b hb => ends_str D.w b.1 (by rw [← he]; exact List.mem_cons_of_mem _ (List.mem_map_of_mem hb)), fun y hy => by rw [he]; exact D.y y hy, by omega, by omega, by omega⟩
theorem Drawn.nd {ws : List Wl} {ys : List Sy} {bs : List (Str × Int)} (D : Drawn ws ys bs) : (ys.map (·.n)).Nodup := D.asc.imp fun {a b} hab e => by rw [e] at hab; exact List.lt_irrefl _ hab
theorem Drawn.with {ws : List Wl} {ys : List Sy} {bs ps : List (Str × Int)} (D : Drawn ws ys bs) (h : ps.map (·.1) = ws.map (·.1)) : Drawn ws ys ps := ⟨D.w, h.symm, D.y, D.asc, D.ly⟩
theorem Tub.ne_plain {n : Nat} {gs : List D} (T : Tub st t m) (h : st[n]? = some (.lst gs)) (hp : ∀ g ∈ gs, Plain g) : n ≠ t := by
  rintro rfl
  obtain ⟨wf, a, b, c, e, _⟩ := T
  rw [h] at e
  cases e
  cases hp (.int a) List.mem_cons_self
/-- the first two rows of a turn -/
theorem first_two {y : StM} {x1 x2 x3 x4 x5 x6 x7 x8 x9 x10 x11 : Option D} {Q : Fl → Store → Prop} (T : Tub st t (m + 110))
    (h : ∀ ws ys bs s, Drawn ws ys bs → Tub s t m → Grow t st s → wp (y [some (.ref t), x1, x2, x3, x4, x5, x6, x7, x8, some (millD ws ys), some (.tup (bs.map bD)), x11] s) Q) :
    wp (sSeq (sAsg (.many [9, 10]) (mCall 3 f__law_pair (mCons (mSlot 0) (mCons (mC (.int 4)) (mCons (mC (.int 6)) mNil)))))
      (sSeq (sIf (asB (mCmp .Eq (mCall 2 f__law_take (mCons (mSlot 0) (mCons (mC (.int 3)) mNil))) (mC (.int 0)))) (sAsg (.one 10) (mCall 2 f__law_begins (mCons (mSlot 0) (mCons (mSlot 9) mNil)))) sNil) y)
      [some (.ref t), x1, x2, x3, x4, x5, x6, x7, x8, x9, x10, x11] st) Q := by
  simp
  refine wp_mono (pair_ok (m := m + 10) T) ?_
  rintro a s ⟨ws, ys, bs, rfl, D, T1, G1⟩
  simp
  refine wp_mono (take_wp (m := m + 9) T1 (by omega) (by omega)) ?_
  rintro a s2 ⟨r, rfl, h0, h1, T2, G2⟩
  simp [eqD_int]
  by_cases hr : r = 0
  · simp [hr]
    refine wp_mono (lbegins_ok (m := m) (T2.less (by have := D.w.hi; omega)) (by have := D.w.hi; omega)) ?_
    rintro a s3 ⟨ps, rfl, hp, T3, G3⟩
    try simp
    exact h ws ys ps s3 (D.with hp) T3 ((G1.trans G2).trans G3)
  · simp [hr]
    exact h ws ys bs s2 D (T2.less (by omega)) (G1.trans G2)
theorem far_again {tb : Str → Int} {y : Sy} : farOf tb { y with l := y.l + farOf tb y } = 0 := by
  by_cases h : y.d = 0
  · have e : farOf tb y = tb y.b - tb y.a - y.l := by simp [farOf, h]
    rw [e]
    simp [farOf, h]
    omega
  · have e : farOf tb y = (tb y.b - tb y.a - y.l) % y.d := by simp [farOf, h]
    rw [e]
    simp [farOf, h]
    generalize tb y.b - tb y.a = w
    have : w - (y.l + (w - y.l) % y.d) = y.d * ((w - y.l) / y.d) := by
      have := Int.emod_add_mul_ediv (w - y.l) y.d
      omega
    rw [this]
    exact Int.mul_emod_right _ _
theorem bad_mem {ws : List Wl} {ys : List Sy} {bs : List (Str × Int)} (D : Drawn ws ys bs) {y : Sy} (hy : y ∈ ys) : decide (farOf (tbOf bs) y = 0) = !decide (y.n ∈ badOf bs ys) := by
  have : y.n ∈ badOf bs ys ↔ ¬ farOf (tbOf bs) y = 0 := by
    unfold badOf
    constructor
    · intro h
      obtain ⟨z, hz, e⟩ := List.mem_map.mp h
      have hz' := List.mem_filter.mp hz
      have : z = y := nd_inj D.nd hz'.1 hy e
      subst this
      simpa using hz'.2
    · intro h
      exact List.mem_map.mpr ⟨y, List.mem_filter.mpr ⟨hy, by simpa using h⟩, rfl⟩
  by_cases h : farOf (tbOf bs) y = 0
  · simp [h, this]
  · simp [h, this]
theorem right_ok (T : Tub st t (m + 300)) : wp (f__law_right [.ref t] st) fun a s => a = .bl true ∧ Tub s t m ∧ Grow t st s := by
  simp only [f__law_right, b_law_right]
  rw [wp_run (np := 1) (ds := [.ref t]) rfl]
  refine wp_seq ?_
  have e0 : startD 12 [D.ref t] = [some (.ref t), none, none, none, none, none, none, none, none, none, none, none] := rfl
  have e1 : mRange (mCons (mC (.int 2)) mNil) (startD 12 [D.ref t]) st = .ok (.fix [.int 0, .int 1]) st := by
    simp [List.range, List.range.loop]
  rw [sFor_eq, e1, ok_bind, e0]
  refine wp_for [.int 0, .int 1] (fun i e s => (∃ x1 x2 x3 x4 x5 x6 x7 x8 x9 x10 x11 : Option D, e = [some (.ref t), x1, x2, x3, x4, x5, x6, x7, x8, x9, x10, x11]) ∧ Tub s t (m + 150 * (2 - i)) ∧ Grow t st s) (by simp) (fun i e s _ => ⟨rfl, rfl⟩) ⟨⟨none, none, none, none, none, none, none, none, none, none, none, rfl⟩, T, Grow.gr (Gr.refl T.wf)⟩ ?_ ?_
  · rintro i d e s hd ⟨⟨x1, x2, x3, x4, x5, x6, x7, x8, x9, x10, x11, rfl⟩, h7, h8⟩
    refine ⟨_, rfl, ?_⟩
    have hi : i < 2 := (List.getElem?_eq_some_iff.mp hd).1
    rw [show m + 150 * (2 - i) = (m + 150 * (2 - (i + 1))) + 40 + 110 by omega] at h7
    generalize hK : m + 150 * (2 - (i + 1)) = K at h7 ⊢
    refine first_two h7 ?_
    intro ws ys bs s1 Dr T1 G1
    have F := Dr.fit
    have lt1 := T1.lt
    have ly := Dr.ly
    have lw := Dr.w.lo
    have lw2 := Dr.w.hi
    have hbw : ws.length = bs.length := by have := congrArg List.length Dr.he; simpa using this
    have hbl : (badOf bs ys).length < 900 := by
      have h2 := List.length_filter_le (fun y => !decide (farOf (tbOf bs) y = 0)) ys
      unfold badOf
      rw [List.length_map]
      omega
    -- the table
    refine wp_seq (wp_mono (P := fun f v => ∃ nt ks, f = .nx [some (.ref t), some d, some (.ref nt), x3, x4, x5, x6, x7, x8, some (.tup [.tup (ws.map wD), .tup (ys.map yD)]), some (.tup (bs.map bD)), x11] ∧ Gr s1 v ∧ v[nt]? = some (.dct ks) ∧ TabAt bs ks) ?_ ?_)
    · simp [millD]
      refine wp_mono (ltab_ok T1.wf F.lb F.nd) ?_
      rintro a s2 ⟨nt, ks, rfl, g2, c2, TT⟩
      simp
      exact ⟨g2, ks, c2, TT⟩
    rintro _ s2 ⟨nt, ks, rfl, g2, c2, TT⟩
    dsimp only
    -- what is not kept
    refine wp_seq (wp_mono (P := fun f v => f = .nx [some (.ref t), some d, some (.ref nt), some (.tup ((badOf bs ys).map .str)), x4, x5, x6, x7, x8, some (.tup [.tup (ws.map wD), .tup (ys.map yD)]), some (.tup (bs.map bD)), x11] ∧ Gr s2 v) ?_ ?_)
    · simp
      refine wp_lcM g2.wf ys yD (fun y => !decide (farOf (tbOf bs) y = 0)) (fun y => .str y.n) (by omega) (fun s i _ => ⟨rfl, by simp⟩) ?_ ?_
      · intro y hy u hu
        have Y := F.y y hy
        simp [kept_ok (hu.get c2) (tab_get TT F.nd Y.a) (tab_get TT F.nd Y.b) Y.d, Gr.refl hu.wf]
        intro _
        simp [yD, Gr.refl hu.wf]
      intro s3 g3 c3
      have hbad : (ys.filter fun y => !decide (farOf (tbOf bs) y = 0)).map (fun y => D.str y.n) = (badOf bs ys).map .str := by
        unfold badOf
        rw [List.map_map]
        rfl
      rw [hbad] at c3
      simp [items_ref c3, g3]
    rintro _ s3 ⟨rfl, g3⟩
    dsimp only
    generalize hgs0 : [D.bl true, D.bl true, D.bl (decide (badOf bs ys = [])), D.tup ((badOf bs ys).map .str)] = gs0
    have pl0 : ∀ g ∈ gs0, Plain g := by
      rw [← hgs0]
      intro g hg
      simp only [List.mem_cons, List.not_mem_nil, or_false] at hg
      rcases hg with rfl | rfl | rfl | rfl
      · exact .bl _
      · exact .bl _
      · exact .bl _
      · exact .tx F.bOk hbl
    have l0 : gs0.length = 4 := by rw [← hgs0]; rfl
    -- what the program tells
    refine wp_seq (wp_mono (P := fun f v => ∃ n4, f = .nx [some (.ref t), some d, some (.ref nt), some (.tup ((badOf bs ys).map .str)), some (.ref n4), x5, x6, x7, x8, some (.tup [.tup (ws.map wD), .tup (ys.map yD)]), some (.tup (bs.map bD)), x11] ∧ Gr s3 v ∧ v[n4]? = some (.lst gs0)) ?_ ?_)
    · simp
      refine wp_mono (mill_ok (ws := ws) (ys := ys) Dr.w.ok Dr.y Dr.w.nd F.lw F.ly (asc_of Dr.w.asc) g3.wf) ?_
      rintro a s4 ⟨rfl, g4⟩
      refine wp_mono (begins_yes (ws := ws) (ys := ys) g4.wf F.lw F.he F.ok) ?_
      rintro a s5 ⟨rfl, g5⟩
      refine wp_mono (setting_ok (ws := ws) (ys := ys) g5.wf F) ?_
      rintro a s6 ⟨rfl, g6⟩
      refine wp_mono (unkept_ok' (ws := ws) (ys := ys) g6.wf F) ?_
      rintro a s7 ⟨rfl, g7⟩
      rw [asc_of Dr.asc, hgs0]
      exact ⟨(g4.trans (g5.trans (g6.trans g7))).trans (Gr.push g7.wf), st_push_eq⟩
    rintro _ s4 ⟨n4, rfl, g4, c4⟩
    dsimp only
    -- what is due
    refine wp_seq (wp_mono (P := fun f v => ∃ n5, f = .nx [some (.ref t), some d, some (.ref nt), some (.tup ((badOf bs ys).map .str)), some (.ref n4), some (.ref n5), x6, x7, x8, some (.tup [.tup (ws.map wD), .tup (ys.map yD)]), some (.tup (bs.map bD)), x11] ∧ Gr s4 v ∧ v[n5]? = some (.lst gs0)) ?_ ?_)
    · simp [eq_nilS F.bOk]
      rw [hgs0]
      exact ⟨Gr.push g4.wf, st_push_eq⟩
    rintro _ s7 ⟨n5, rfl, g5, c5⟩
    dsimp only
    have g7 : Gr s3 s7 := g4.trans g5
    have c7 : s7[nt]? = some (.dct ks) := g7.get (g3.get c2)
    -- SAYING by SAYING
    refine wp_seq (wp_mono (P := fun f v => ∃ (n4 n5 : Nat) (x6 x11 : Option D) (gs : List D), f = .nx [some (.ref t), some d, some (.ref nt), some (.tup ((badOf bs ys).map .str)), some (.ref n4), some (.ref n5), x6, x7, x8, some (.tup [.tup (ws.map wD), .tup (ys.map yD)]), some (.tup (bs.map bD)), x11] ∧ v[n4]? = some (.lst gs) ∧ v[n5]? = some (.lst gs) ∧ (∀ g ∈ gs, Plain g) ∧ gs.length ≤ 4 + 3 * ys.length ∧ Gr s7 v) ?_ ?_)
    · simp only [sFor_eq]
      have hsrc : mSrc (mIx (mSlot 9) (mC (.int 1))) [some (.ref t), some d, some (.ref nt), some (.tup ((badOf bs ys).map .str)), some (.ref n4), some (.ref n5), x6, x7, x8, some (.tup [.tup (ws.map wD), .tup (ys.map yD)]), some (.tup (bs.map bD)), x11] s7 = .ok (.fix (ys.map yD)) s7 := by simp
      rw [hsrc, ok_bind]
      refine wp_forN (ys.map yD) (fun i e s => i ≤ ys.length ∧ ∃ (n4 n5 : Nat) (x6 x11 : Option D) (gs : List D), e = [some (.ref t), some d, some (.ref nt), some (.tup ((badOf bs ys).map .str)), some (.ref n4), some (.ref n5), x6, x7, x8, some (.tup [.tup (ws.map wD), .tup (ys.map yD)]), some (.tup (bs.map bD)), x11] ∧
        s[n4]? = some (.lst gs) ∧ s[n5]? = some (.lst gs) ∧ (∀ g ∈ gs, Plain g) ∧ gs.length ≤ 4 + 3 * i ∧ Gr s7 s) (by simp; omega) (fun i e s _ => ⟨rfl, rfl⟩) ?_ ?_ ?_
      · exact ⟨Nat.zero_le _, n4, n5, x6, x11, gs0, rfl, g5.get c4, c5, pl0, by omega, Gr.refl g5.wf⟩
      · rintro i d2 e u hd2 ⟨hi2, n4, n5, x6, x11, gs, rfl, k1, k2, k3, k4, k5⟩
        rw [List.getElem?_map] at hd2
        obtain ⟨y, hy, rfl⟩ := Option.map_eq_some_iff.mp hd2
        have hi3 : i < ys.length := (List.getElem?_eq_some_iff.mp hy).1
        have hym := List.mem_of_getElem? hy
        have Y := F.y y hym
        have ey : yD y = .tup [.str y.n, .str y.a, .str y.b, .int y.l, .int y.d] := rfl
        rw [ey]
        refine ⟨_, rfl, ?_⟩
        generalize hf : farOf (tbOf bs) y = fo
        refine wp_seq (wp_mono (P := fun f v => f = .nx [some (.ref t), some d, some (.ref nt), some (.tup ((badOf bs ys).map .str)), some (.ref n4), some (.ref n5), some (.tup [.str y.n, .str y.a, .str y.b, .int y.l, .int y.d]), x7, x8, some (.tup [.tup (ws.map wD), .tup (ys.map yD)]), some (.tup (bs.map bD)), some (.int fo)] ∧ Gr u v) ?_ ?_)
        · simp
          refine wp_mono (off_ok (ws := ws) k5.wf F Dr.nd hym) ?_
          rintro a u1 ⟨rfl, q1⟩
          simp [hf, q1]
        rintro _ u1 ⟨rfl, q1⟩
        dsimp only
        have h1 := q1.get k1
        have h2 := q1.get k2
        have ct : u1[nt]? = some (.dct ks) := q1.get (k5.get c7)
        have hkept : ∀ v : Store, v[nt]? = some (.dct ks) → f__law_kept [.ref nt, .tup [.str y.n, .str y.a, .str y.b, .int (y.l + fo), .int y.d]] v = .ok (.bl true) v := by
          intro v hv
          have := kept_ok (y := { y with l := y.l + fo }) hv (tab_get TT F.nd Y.a) (tab_get TT F.nd Y.b) Y.d
          rw [← hf] at this ⊢
          rw [far_again] at this
          exact this
        have hbm := bad_mem Dr hym
        rw [hf] at hbm
        refine wp_seq (wp_mono (P := fun f v => ∃ n, f = .nx [some (.ref t), some d, some (.ref nt), some (.tup ((badOf bs ys).map .str)), some (.ref n), some (.ref n5), some (.tup [.str y.n, .str y.a, .str y.b, .int y.l, .int y.d]), x7, x8, some (.tup [.tup (ws.map wD), .tup (ys.map yD)]), some (.tup (bs.map bD)), some (.int fo)] ∧
          Gr u1 v ∧ v[n]? = some (.lst (gs ++ [.bl (decide (fo = 0)), .bl true, .bl true]))) ?_ ?_)
        · have hadd : binOp .Add (.ref n4) (.ref u1.length) (u1.push (.lst [.bl (decide (fo = 0)), .bl true, .bl true])) = .ok (.ref (u1.length + 1)) ((u1.push (.lst [.bl (decide (fo = 0)), .bl true, .bl true])).push (.lst (gs ++ [.bl (decide (fo = 0)), .bl true, .bl true]))) :=
            add_lst ((st_push_lt (st_lt h1)).trans h1) st_push_eq (by simp; omega)
          have hfin : Gr u1 ((u1.push (.lst [.bl (decide (fo = 0)), .bl true, .bl true])).push (.lst (gs ++ [.bl (decide (fo = 0)), .bl true, .bl true]))) ∧ ((u1.push (.lst [.bl (decide (fo = 0)), .bl true, .bl true])).push (.lst (gs ++ [.bl (decide (fo = 0)), .bl true, .bl true])))[u1.length + 1]? = some (.lst (gs ++ [.bl (decide (fo = 0)), .bl true, .bl true])) :=
            ⟨(Gr.push q1.wf).trans (Gr.push (wf_push q1.wf)), st_push_eq⟩
          by_cases hz : y.d = 0
          · have hk0 := hkept u1 ct
            rw [hz] at hk0
            simp [eqD_int, slOp, cut_take, add_tup, hk0, hz, hadd, hfin]
          · have hb : 0 ≤ fo ∧ fo < y.d := by
              have hd := Y.d
              rw [← hf]
              simp only [farOf, if_neg hz]
              exact ⟨Int.emod_nonneg _ hz, Int.emod_lt_of_pos _ (by omega)⟩
            simp [eqD_int, slOp, cut_take, add_tup, hkept u1 ct, hz, hb.1, hb.2, hadd, hfin]
        rintro _ u2 ⟨n4', rfl, q2, h4'⟩
        dsimp only
        have h2' := q2.get h2
        have hadd : binOp .Add (.ref n5) (.ref u2.length) (u2.push (.lst [.bl (decide (fo = 0)), .bl true, .bl true])) = .ok (.ref (u2.length + 1)) ((u2.push (.lst [.bl (decide (fo = 0)), .bl true, .bl true])).push (.lst (gs ++ [.bl (decide (fo = 0)), .bl true, .bl true]))) :=
          add_lst ((st_push_lt (st_lt h2')).trans h2') st_push_eq (by simp; omega)
        have hin : isIn (.str y.n) (.tup ((badOf bs ys).map .str)) u2 = some (decide (y.n ∈ badOf bs ys)) := isIn_tup _ _
        simp [hin, ← hbm, hadd]
        have ln := st_lt h4'
        refine ⟨hi3, n4', u2.length + 1, ⟨rfl, rfl⟩, gs ++ [.bl (decide (fo = 0)), .bl true, .bl true], (st_push_lt (by show n4' < u2.length + 1; omega)).trans ((st_push_lt ln).trans h4'), st_push_eq, ?_, ?_, (k5.trans (q1.trans q2)).trans ((Gr.push q2.wf).trans (Gr.push (wf_push q2.wf)))⟩
        · intro g hg
          rcases List.mem_append.mp hg with hg | hg
          · exact k3 g hg
          · simp only [List.mem_cons, List.not_mem_nil, or_false] at hg
            rcases hg with rfl | rfl | rfl <;> exact .bl _
        · simp
          omega
      · rintro e u ⟨hi2, n4, n5, x6, x11, gs, rfl, k1, k2, k3, k4, k5⟩
        rw [List.length_map] at k4
        exact ⟨n4, n5, x6, x11, gs, rfl, k1, k2, k3, k4, k5⟩
    rintro _ u ⟨n4, n5, x6, x11, gs, rfl, k1, k2, k3, k4, k5⟩
    dsimp only
    have Gu : Gr s1 u := g2.trans (g3.trans (g7.trans k5))
    -- which WHEEL is out
    refine wp_seq (wp_mono (P := fun f v => ∃ k : Nat, k < bs.length ∧ f = .nx [some (.ref t), some d, some (.ref nt), some (.tup ((badOf bs ys).map .str)), some (.ref n4), some (.ref n5), x6, some (.int (k : Nat)), x8, some (.tup [.tup (ws.map wD), .tup (ys.map yD)]), some (.tup (bs.map bD)), x11] ∧
      Tub v t (K + 39) ∧ Grow t u v) ?_ ?_)
    · simp
      refine wp_mono (take_wp (m := K + 39) (T1.gr Gu) (by omega) (by omega)) ?_
      rintro a v ⟨r, rfl, a0, a1, T2, K2⟩
      simp
      exact ⟨r.toNat, by omega, by omega, T2, K2⟩
    rintro _ v1 ⟨k, hk, rfl, T2, K2⟩
    dsimp only
    have Tu := T1.gr Gu
    have j4 : v1[n4]? = some (.lst gs) := K2.get (Tu.ne_plain k1 k3) k1
    have j5 : v1[n5]? = some (.lst gs) := K2.get (Tu.ne_plain k2 k3) k2
    -- the bent BEGINS
    refine wp_seq (wp_mono (P := fun f v => ∃ cs : List (Str × Int), cs.length + 1 = bs.length ∧ f = .nx [some (.ref t), some d, some (.ref nt), some (.tup ((badOf bs ys).map .str)), some (.ref n4), some (.ref n5), x6, some (.int (k : Nat)), some (.tup (cs.map bD)), some (.tup [.tup (ws.map wD), .tup (ys.map yD)]), some (.tup (bs.map bD)), x11] ∧ v = v1) ?_ ?_)
    · simp
      rw [sl_tup, cut_take (show (0 : Int) ≤ k by omega), wp_ok, sl_tup, cut_drop (show (0 : Int) ≤ (k : Int) + 1 by omega), wp_ok, add_tup, if_pos (by simp; omega), wp_ok]
      refine ⟨bs.take k ++ bs.drop (k + 1), by simp; omega, ?_, rfl⟩
      rw [List.map_append, List.map_take, List.map_drop]
      rfl
    rintro _ v2 ⟨cs, hcs, rfl, rfl⟩
    dsimp only
    have hg3 : ∀ g ∈ gs ++ [D.bl false, D.bl false, D.bl (decide (ys = []))], Plain g := by
      intro g hg
      rcases List.mem_append.mp hg with hg | hg
      · exact k3 g hg
      · simp only [List.mem_cons, List.not_mem_nil, or_false] at hg
        rcases hg with rfl | rfl | rfl <;> exact .bl _
    have Y2 : ∀ y ∈ ys ++ ys, YOk (endsOf ws) y := fun y hy => Dr.y y (by rcases List.mem_append.mp hy with h | h <;> exact h)
    have hasc : ascB ((ys ++ ys).map (·.n)) = decide (ys = []) := by
      rw [List.map_append, asc_twice (by rw [List.pairwise_map]; have := Dr.asc; rwa [List.pairwise_map] at this)]
      simp
    -- what the program tells of them
    refine wp_seq (wp_mono (P := fun f v => ∃ n4, f = .nx [some (.ref t), some d, some (.ref nt), some (.tup ((badOf bs ys).map .str)), some (.ref n4), some (.ref n5), x6, some (.int (k : Nat)), some (.tup (cs.map bD)), some (.tup [.tup (ws.map wD), .tup (ys.map yD)]), some (.tup (bs.map bD)), x11] ∧ Gr v2 v ∧ v[n4]? = some (.lst (gs ++ [.bl false, .bl false, .bl (decide (ys = []))]))) ?_ ?_)
    · simp
      refine wp_mono (begins_no (ws := ws) (ys := ys) T2.wf F.lw (by omega)) ?_
      rintro a w1 ⟨rfl, q1⟩
      refine wp_mono (setting_no (ws := ws) (ys := ys) q1.wf F.lw (by omega)) ?_
      rintro a w2 ⟨rfl, q2⟩
      rw [mul_two (by simp; omega), wp_ok, ← List.map_append]
      refine wp_mono (mill_ok (ws := ws) (ys := ys ++ ys) Dr.w.ok Y2 Dr.w.nd F.lw (by simp; omega) (asc_of Dr.w.asc) q2.wf) ?_
      rintro a w3 ⟨rfl, q3⟩
      rw [hasc]
      have Q := q1.trans (q2.trans q3)
      have e4 := Q.get j4
      rw [add_lst ((st_push_lt (st_lt e4)).trans e4) st_push_eq (by simp; omega), wp_ok]
      exact ⟨_, rfl, (Q.trans (Gr.push Q.wf)).trans (Gr.push (wf_push Q.wf)), st_push_eq⟩
    rintro _ v3 ⟨n4, rfl, q3, d4⟩
    dsimp only
    have d5 := q3.get j5
    refine wp_seq (wp_mono (P := fun f v => ∃ n5, f = .nx [some (.ref t), some d, some (.ref nt), some (.tup ((badOf bs ys).map .str)), some (.ref n4), some (.ref n5), x6, some (.int (k : Nat)), some (.tup (cs.map bD)), some (.tup [.tup (ws.map wD), .tup (ys.map yD)]), some (.tup (bs.map bD)), x11] ∧ Gr v3 v ∧ v[n5]? = some (.lst (gs ++ [.bl false, .bl false, .bl (decide (ys = []))]))) ?_ ?_)
    · simp [eq_nilY F.sOk]
      rw [add_lst ((st_push_lt (st_lt d5)).trans d5) st_push_eq (by simp; omega), wp_ok]
      exact ⟨_, rfl, (Gr.push q3.wf).trans (Gr.push (wf_push q3.wf)), st_push_eq⟩
    rintro _ v4 ⟨n5, rfl, q4, f5⟩
    dsimp only
    simp
    refine wp_mono (same_list 11 (q4.get d4) f5 hg3 (by simp; omega) q4.wf) ?_
    rintro a v5 ⟨rfl, q5⟩
    simp
    have Q := q3.trans (q4.trans q5)
    exact ⟨(T2.gr Q).less (by omega), (h8.trans G1).trans ((Grow.gr Gu).trans (K2.trans (Grow.gr Q)))⟩
  · rintro e s ⟨⟨x1, x2, x3, x4, x5, x6, x7, x8, x9, x10, x11, rfl⟩, h7, h8⟩
    simp
    exact ⟨h7.less (by omega), h8⟩
end
end K00
set_option Elab.async false
set_option linter.all false
set_option maxRecDepth 100000
set_option maxHeartbeats 4000000
namespace K00
open PySem PySem.Spec PyProof.Rows L2 Dp
section
variable {st : Store}
theorem sl_rl {ds : List D} {lo hi : Option Int} : slOp (.rl ds) lo hi st = .ok (.ref st.length) (st.push (.lst (Dp.cutD ds lo hi))) := rfl
theorem mul_small2 {i j : Int} (h : -1000 ≤ j ∧ j ≤ 1000) : binOp .Mult (.int i) (.int j) st = .ok (.int (i * j)) st := by
  have : mulOk i j = true := by
    unfold mulOk
    simp only [Bool.or_eq_true, Bool.and_eq_true, decide_eq_true_eq]
    exact .inr ⟨by omega, by omega⟩
  simp [binOp, this]
theorem mod_int {i j : Int} (h : 0 < j) : binOp .Mod (.int i) (.int j) st = .ok (.int (i % j)) st := by simp [binOp, h]
theorem cut_mid (ns : List Int) : ∃ ks : List Int, Dp.cutD (ns.map .int) (some 3) (some 63) = ks.map .int ∧ ks.length ≤ 60 ∧ (ks ≠ [] → 3 < ns.length) := by
  refine ⟨(ns.drop (HT.sIx ns.length 0 (some 3))).take (HT.sIx ns.length ns.length (some 63) - HT.sIx ns.length 0 (some 3)), ?_, ?_, ?_⟩
  · unfold Dp.cutD
    rw [List.length_map, List.map_take, List.map_drop]
  · rw [List.length_take]
    simp only [HT.sIx]
    rw [if_neg (by omega), if_neg (by omega), List.length_drop]
    omega
  · intro h
    apply Classical.byContradiction
    intro h3
    apply h
    have e3 : HT.sIx ns.length 0 (some 3) = min 3 ns.length := by
      simp only [HT.sIx]
      rw [if_neg (by omega)]
      rfl
    rw [e3, List.drop_of_length_le (by omega), List.take_nil]
theorem cells_ok (wf : st.cs.length = st.length) (ns : List Int) : wp (f__law_cells [.rl (ns.map .int), .int 3] st) fun a s => ∃ n ms, a = .ref n ∧ s.cs.length = s.length ∧ s[n]? = some (.lst (List.map D.int ms)) ∧ 1 ≤ ms.length ∧ ms.length ≤ 3 := by
  simp only [f__law_cells, b_law_cells]
  rw [wp_run (np := 2) (ds := [.rl (ns.map .int), .int 3]) rfl]
  have e0 : startD 6 [D.rl (ns.map .int), .int 3] = [some (.rl (ns.map .int)), some (.int 3), none, none, none, none] := rfl
  rw [e0]
  refine wp_seq (wp_mono (P := fun f v => ∃ n ms, f = .nx [some (.rl (ns.map .int)), some (.int 3), some (.ref n), none, none, none] ∧ v.cs.length = v.length ∧ v[n]? = some (.lst (List.map D.int ms)) ∧ 1 ≤ ms.length ∧ ms.length ≤ 3 ∧ (3 < ns.length → ms.length = 3)) ?_ ?_)
  · simp [sl_rl]
    have hc : Dp.cutD (ns.map .int) none (some 3) = (ns.take 3).map .int := by rw [cut_take (by omega), List.map_take]; rfl
    rw [hc, items_ref st_push_eq]
    simp [tru_lst st_push_eq]
    cases ns with
    | nil =>
      simp
      exact ⟨wfPush (wfPush (wfPush wf)), [0], st_push_eq, by decide, by decide⟩
    | cons z zs =>
      simp
      refine ⟨wfPush (wfPush wf), z :: zs.take 2, ?_, by simp, by simp; omega, by simp; omega⟩
      rw [st_push_eq]
      simp
  rintro _ s1 ⟨n, ms, rfl, wf1, c1, l1, l3, lx⟩
  dsimp only
  obtain ⟨ks, hks, kl, kx⟩ := cut_mid ns
  refine wp_seq (wp_mono (P := fun f v => ∃ x3 x4 x5 ms, f = .nx [some (.rl (ns.map .int)), some (.int 3), some (.ref n), x3, x4, x5] ∧ v.cs.length = v.length ∧ v[n]? = some (.lst (List.map D.int ms)) ∧ 1 ≤ ms.length ∧ ms.length ≤ 3) ?_ ?_)
  · simp [sl_rl, hks, -List.length_map]
    rw [st_push_eq]
    simp only [Option.bind, items_lst, wp_ok]
    have ln := st_lt c1
    refine wp_forN (ks.mapIdx fun i z => .tup [.int (i : Nat), .int z]) (fun i e v => ∃ x3 x4 x5 ms, e = [some (.rl (ns.map .int)), some (.int 3), some (.ref n), x3, x4, x5] ∧ v.cs.length = v.length ∧ v[n]? = some (.lst (List.map D.int ms)) ∧ 1 ≤ ms.length ∧ ms.length ≤ 3 ∧ (3 < ns.length → ms.length = 3) ∧ v[s1.length]? = some (.lst (ks.map .int))) (by simp; omega) ?_ ?_ ?_ ?_
    · rintro i e v ⟨x3, x4, x5, ms, rfl, w1, w2, w3, w4, w5, w6⟩
      constructor
      · simp [Src.good, w6]
      · simp [Src.at, w6]
        cases ks[i]? <;> simp
    · exact ⟨none, none, none, ms, rfl, wfPush wf1, (st_push_lt ln).trans c1, l1, l3, lx, st_push_eq⟩
    · rintro i d e v hd ⟨x3, x4, x5, ms, rfl, w1, w2, w3, w4, w5, w6⟩
      rw [List.getElem?_mapIdx] at hd
      obtain ⟨z, hz, rfl⟩ := Option.map_eq_some_iff.mp hd
      have hi : i < ks.length := (List.getElem?_eq_some_iff.mp hz).1
      have h3 : ms.length = 3 := w5 (kx fun e => by rw [e] at hi; simp at hi)
      have lv := st_lt w2
      have r0 : (0 : Int) ≤ (i : Int) % 3 := Int.emod_nonneg _ (by omega)
      have r1 : (i : Int) % 3 < 3 := Int.emod_lt_of_pos _ (by omega)
      obtain ⟨q, _, eq⟩ := ix_ints (st := v) ms (fun _ => True) (fun _ _ => trivial) r0 (by omega)
      refine ⟨_, rfl, ?_⟩
      have hix : ∀ w, setOp (.ref n) (.int ((i : Int) % 3)) (.int w) v = some (v.set n (.lst ((ms.set ((i : Int) % 3).toNat w).map .int))) := by
        intro w
        have : L2.ixN (ms.map D.int).length ((i : Int) % 3) = some ((i : Int) % 3).toNat := by
          unfold L2.ixN
          rw [if_pos r0, if_pos (by rw [List.length_map]; omega)]
        simp only [setOp, w2, this, List.map_set]
      simp [mod_int, ix_lst w2, eq, mul_small2 (show (-1000 : Int) ≤ (i : Int) + 2 ∧ (i : Int) + 2 ≤ 1000 by omega), hix]
      refine ⟨wfSet w1, ms.set ((i : Int) % 3).toNat (q + z * (i + 2)), ?_, by rw [List.length_set]; omega, by rw [List.length_set]; omega, fun _ => by rw [List.length_set]; exact h3, ?_⟩
      · rw [List.map_set]
        exact st_set_self w1 lv
      · exact (st_set_ne (by omega) lv).trans w6
    · rintro e v ⟨x3, x4, x5, ms, rfl, w1, w2, w3, w4, w5, w6⟩
      exact ⟨⟨x3, x4, x5, rfl⟩, w1, ms, w2, w3, w4⟩
  rintro _ s2 ⟨x3, x4, x5, ms2, rfl, wf2, c2, h1, h3⟩
  simp
  exact ⟨wf2, ms2, c2, h1, h3⟩
end
end K00
set_option Elab.async false
set_option linter.all false
set_option maxRecDepth 100000
set_option maxHeartbeats 4000000
namespace K00
open PySem PySem.Spec PyProof.Rows L2 Dp
def handChk (o : Out D) : Bool := match o with
  | .ok (.bl true) s => s.cs.length == s.length
  | _ => false
theorem hand_true : handChk (f__law_by_hand_right [] ⟨0, []⟩) = true := by decide +kernel
theorem hand_key (o : Out D) (h : handChk o = true) : wp o fun a s => a = .bl true ∧ s.cs.length = s.length := by
  unfold handChk at h
  split at h
  · exact ⟨rfl, by simpa using h⟩
  · cases h
theorem hand_ok : wp (f__law_by_hand_right [] ⟨0, []⟩) fun a s => a = .bl true ∧ s.cs.length = s.length := hand_key _ hand_true
theorem law_ok (ns : List Int) {st0 : Store} (hand : wp (f__law_by_hand_right [] st0) fun a s => a = .bl true ∧ s.cs.length = s.length) : wp (f_law [.rl (ns.map .int)] st0) fun a s => a = .bl true := by
  simp only [f_law, blaw]
  rw [wp_run (np := 1) (ds := [.rl (ns.map .int)]) rfl]
  have e0 : startD 3 [D.rl (ns.map .int)] = [some (.rl (ns.map .int)), none, none] := rfl
  rw [e0]
  refine wp_seq (wp_mono (P := fun f v => f = .nx [some (.rl (ns.map .int)), none, none] ∧ v.cs.length = v.length) ?_ ?_)
  · simp
    refine wp_mono hand ?_
    rintro a s ⟨rfl, wf⟩
    simp [wf]
  rintro _ s1 ⟨rfl, wf1⟩
  dsimp only
  refine wp_seq (wp_mono (P := fun f v => ∃ n ms, f = .nx [some (.rl (ns.map .int)), some (.ref n), none] ∧ v.cs.length = v.length ∧ v[n]? = some (.lst (List.map D.int ms)) ∧ 1 ≤ ms.length ∧ ms.length ≤ 3) ?_ ?_)
  · simp
    refine wp_mono (cells_ok wf1 ns) ?_
    rintro a s ⟨n, ms, rfl, wf, h⟩
    simp
    exact ⟨wf, ms, h⟩
  rintro _ s2 ⟨n, ms, rfl, wf2, c2, l1, l3⟩
  dsimp only
  simp [len_ref c2]
  rw [if_pos (by omega), wp_ok]
  refine wp_lcM wf2 (List.range ms.length) (fun k => D.int (k : Nat)) (fun _ => true) (fun _ => .bl true) (by simp; omega) (fun s i _ => ⟨rfl, by simp⟩) ?_ ?_
  · intro k hk s hs
    have hk' := List.mem_range.mp hk
    obtain ⟨s3, e3, T3, G3, l3'⟩ := box_ok hs.wf (hs.get c2) hk'
    simp [Gr.refl hs.wf, e3]
    refine wp_mono (right_ok (m := 0) (T3.less (by omega))) ?_
    rintro a s4 ⟨rfl, T4, G4⟩
    refine ⟨rfl, T4.wf, (G3.trans G4).len, fun i hi => (G3.trans G4).old i hi (by omega)⟩
  · intro s hs hc
    rw [filter_tt] at hc
    rw [all_tt hc]
    rfl
theorem wp_true {o : Out D} (h : wp o fun a s => a = .bl true) : ∃ st, o = .ok (.bl true) st := by
  obtain ⟨a, s, e, h2⟩ := wp_ex h
  rw [h2] at e
  exact ⟨s, e⟩
theorem law_a (ns : List Int) : wp (f_law [.rl (ns.map .int)] ⟨0, []⟩) fun a s => a = .bl true := by
  have h := hand_ok
  generalize (⟨0, []⟩ : Store) = st0 at h ⊢
  exact law_ok ns h
theorem law_true_core (ns : List Int) : ∃ st, f_law [.rl (ns.map .int)] ⟨0, []⟩ = .ok (.bl true) st := by
  have h := law_a ns
  generalize f_law [.rl (ns.map .int)] ⟨0, []⟩ = o at h ⊢
  exact wp_true h
end K00
namespace K00
theorem law_true : LawTrue := fun ns _ _ => law_true_core ns
end K00
set_option Elab.async false
set_option linter.all false
set_option maxRecDepth 100000

open PySem PySem.W PyProof.Rows
set_option maxHeartbeats 0 in
theorem PySem.Challenge.cw_wheelmarks_k00_mills_begins_and_settings_holds : PySem.Challenge.rw_wheelmarks_k00_mills_begins_and_settings.Holds := by
  w_on; o_law; k_head; (case hw => w_witness2)
  k_fill
  refine L2.walk_ofB (l := PySem.Challenge.rw_wheelmarks_k00_mills_begins_and_settings) (n := 63) (k := 21) (x := "_law_script") (CX := fun w => L2.CX PySem.Challenge.rw_wheelmarks_k00_mills_begins_and_settings.prog w) (sp := fun w => K00.spLaw _) rfl (by decide) rfl ⟨rfl, by decide, by decide⟩ (fun w h Y => PySem.W.kIn_of Y) ?F (fun _ _ a ns hl hb hO hS => K00.law_sp hl hb hO hS) (fun _ _ _ _ _ h => K00.law_cx h)
  case F =>
    intro w mg fa h KX G hmg
    have q := by
      refine' K00.facts (P := PySem.Challenge.rw_wheelmarks_k00_mills_begins_and_settings.prog) (w := w) KX G ?a8 ?l8 ?c8 ?k8 ?a9 ?l9 ?c9 ?k9 ?a10 ?l10 ?c10 ?k10 ?a11 ?l11 ?c11 ?k11 ?a12 ?l12 ?c12 ?k12 ?a13 ?l13 ?c13 ?k13 ?a14 ?l14 ?c14 ?k14 ?a15 ?l15 ?c15 ?k15 ?a16 ?l16 ?c16 ?k16 ?a17 ?l17 ?c17 ?k17 ?a18 ?l18 ?c18 ?k18 ?a20 ?l20 ?c20 ?k20 ?a21 ?l21 ?c21 ?k21 ?a22 ?l22 ?c22 ?k22 ?a23 ?l23 ?c23 ?k23 ?a24 ?l24 ?c24 ?k24 ?a25 ?l25 ?c25 ?k25 ?a26 ?l26 ?c26 ?k26 ?a27 ?l27 ?c27 ?k27 ?a28 ?l28 ?c28 ?k28 ?a29 ?l29 ?c29 ?k29 ?a30 ?l30 ?c30 ?k30 ?a31 ?l31 ?c31 ?k31 ?a32 ?l32 ?c32 ?k32 ?a33 ?l33 ?c33 ?k33 ?a34 ?l34 ?c34 ?k34 ?a35 ?l35 ?c35 ?k35 ?a36 ?l36 ?c36 ?k36 ?a37 ?l37 ?c37 ?k37 ?a38 ?l38 ?c38 ?k38 ?a40 ?l40 ?c40 ?k40 ?a41 ?l41 ?c41 ?k41 ?a42 ?l42 ?c42 ?k42 ?a43 ?l43 ?c43 ?k43 ?a44 ?l44 ?c44 ?k44 ?a45 ?l45 ?c45 ?k45 ?a46 ?l46 ?c46 ?k46 ?a47 ?l47 ?c47 ?k47 ?a48 ?l48 ?c48 ?k48 ?a49 ?l49 ?c49 ?k49 ?a50 ?l50 ?c50 ?k50 ?a51 ?l51 ?c51 ?k51 ?a52 ?l52 ?c52 ?k52 ?a53 ?l53 ?c53 ?k53 ?a54 ?l54 ?c54 ?k54 ?a55 ?l55 ?c55 ?k55 ?a56 ?l56 ?c56 ?k56 ?a57 ?l57 ?c57 ?k57 ?a58 ?l58 ?c58 ?k58 ?a59 ?l59 ?c59 ?k59 ?a60 ?l60 ?c60 ?k60 ?a61 ?l61 ?c61 ?k61 ?a62 ?l62 ?c62 ?k62 ?z_LookupError ?z_ValueError ?z_abs ?z_all ?z_any ?z_bool ?z_dict ?z_enumerate ?z_int ?z_isinstance ?z_len ?z_list ?z_max ?z_min ?z_range ?z_sorted ?z_str ?z_tuple ?z_zip ?q_LETTERS ?q_LONGEST_NAME ?o1_a ?o1_x ?o1_s ?o1_n ?o1_i ?o1_t ?o1_l ?o1_c ?o1_k ?o1_b ?o1_y ?o1_g ?o1_h ?o1_d ?o1_e ?o1_m ?o2_a ?o2_x ?o2_s ?o2_n ?o2_i ?o2_t ?o2_l ?o2_c ?o2_k ?o2_b ?o2_y ?o2_g ?o2_h ?o2_d ?o2_e ?o2_m ?o3_a ?o3_x ?o3_s ?o3_n ?o3_i ?o3_t ?o3_l ?o3_c ?o3_k ?o3_b ?o3_y ?o3_g ?o3_h ?o3_d ?o3_e ?o3_m ?o4_a ?o4_x ?o4_k ?o4_b ?o4_y ?o4_g ?o4_h ?o4_d ?o4_e ?o4_m ?g_n ?g_t ?m1_1 ?m1_2 ?m1_3 ?m1_4 ?i1_LookupError ?i1_ValueError ?m2_1 ?m2_2 ?m2_3 ?m2_4 ?i2_LookupError ?i2_ValueError ?m3_1 ?m3_2 ?m3_3 ?m3_4 ?i3_LookupError ?i3_ValueError ?m4_1 ?m4_2 ?m4_3 ?m4_4 ?i4_LookupError ?i4_ValueError
      (case a8 => k_is)
      (case l8 => k_is)
      (case c8 => k_is)
      (case k8 => k_is)
      (case a9 => k_is)
      (case l9 => k_is)
      (case c9 => k_is)
      (case k9 => k_is)
      (case a10 => k_is)
      (case l10 => k_is)
      (case c10 => k_is)
      (case k10 => k_is)
      (case a11 => k_is)
      (case l11 => k_is)
      (case c11 => k_is)
      (case k11 => k_is)
      (case a12 => k_is)
      (case l12 => k_is)
      (case c12 => k_is)
      (case k12 => k_is)
      (case a13 => k_is)
      (case l13 => k_is)
      (case c13 => k_is)
      (case k13 => k_is)
      (case a14 => k_is)
      (case l14 => k_is)
      (case c14 => k_is)
      (case k14 => k_is)
      (case a15 => k_is)
      (case l15 => k_is)
      (case c15 => k_is)
      (case k15 => k_is)
      (case a16 => k_is)
      (case l16 => k_is)
      (case c16 => k_is)
      (case k16 => k_is)
      (case a17 => k_is)
      (case l17 => k_is)
      (case c17 => k_is)
      (case k17 => k_is)
      (case a18 => k_is)
      (case l18 => k_is)
      (case c18 => k_is)
      (case k18 => k_is)
      (case a20 => k_is)
      (case l20 => k_is)
      (case c20 => k_is)
      (case k20 => k_is)
      (case a21 => k_is)
      (case l21 => k_is)
      (case c21 => k_is)
      (case k21 => k_is)
      (case a22 => k_is)
      (case l22 => k_is)
      (case c22 => k_is)
      (case k22 => k_is)
      (case a23 => k_is)
      (case l23 => k_is)
      (case c23 => k_is)
      (case k23 => k_is)
      (case a24 => k_is)
      (case l24 => k_is)
      (case c24 => k_is)
      (case k24 => k_is)
      (case a25 => k_is)
      (case l25 => k_is)
      (case c25 => k_is)
      (case k25 => k_is)
      (case a26 => k_is)
      (case l26 => k_is)
      (case c26 => k_is)
      (case k26 => k_is)
      (case a27 => k_is)
      (case l27 => k_is)
      (case c27 => k_is)
      (case k27 => k_is)
      (case a28 => k_is)
      (case l28 => k_is)
      (case c28 => k_is)
      (case k28 => k_is)
      (case a29 => k_is)
      (case l29 => k_is)
      (case c29 => k_is)
      (case k29 => k_is)
      (case a30 => k_is)
      (case l30 => k_is)
      (case c30 => k_is)
      (case k30 => k_is)
      (case a31 => k_is)
      (case l31 => k_is)
      (case c31 => k_is)
      (case k31 => k_is)
      (case a32 => k_is)
      (case l32 => k_is)
      (case c32 => k_is)
      (case k32 => k_is)
      (case a33 => k_is)
      (case l33 => k_is)
      (case c33 => k_is)
      (case k33 => k_is)
      (case a34 => k_is)
      (case l34 => k_is)
      (case c34 => k_is)
      (case k34 => k_is)
      (case a35 => k_is)
      (case l35 => k_is)
      (case c35 => k_is)
      (case k35 => k_is)
      (case a36 => k_is)
      (case l36 => k_is)
      (case c36 => k_is)
      (case k36 => k_is)
      (case a37 => k_is)
      (case l37 => k_is)
      (case c37 => k_is)
      (case k37 => k_is)
      (case a38 => k_is)
      (case l38 => k_is)
      (case c38 => k_is)
      (case k38 => k_is)
      (case a40 => k_is)
      (case l40 => k_is)
      (case c40 => k_is)
      (case k40 => k_is)
      (case a41 => k_is)
      (case l41 => k_is)
      (case c41 => k_is)
      (case k41 => k_is)
      (case a42 => k_is)
      (case l42 => k_is)
      (case c42 => k_is)
      (case k42 => k_is)
      (case a43 => k_is)
      (case l43 => k_is)
      (case c43 => k_is)
      (case k43 => k_is)
      (case a44 => k_is)
      (case l44 => k_is)
      (case c44 => k_is)
      (case k44 => k_is)
      (case a45 => k_is)
      (case l45 => k_is)
      (case c45 => k_is)
      (case k45 => k_is)
      (case a46 => k_is)
      (case l46 => k_is)
      (case c46 => k_is)
      (case k46 => k_is)
      (case a47 => k_is)
      (case l47 => k_is)
      (case c47 => k_is)
      (case k47 => k_is)
      (case a48 => k_is)
      (case l48 => k_is)
      (case c48 => k_is)
      (case k48 => k_is)
      (case a49 => k_is)
      (case l49 => k_is)
      (case c49 => k_is)
      (case k49 => k_is)
      (case a50 => k_is)
      (case l50 => k_is)
      (case c50 => k_is)
      (case k50 => k_is)
      (case a51 => k_is)
      (case l51 => k_is)
      (case c51 => k_is)
      (case k51 => k_is)
      (case a52 => k_is)
      (case l52 => k_is)
      (case c52 => k_is)
      (case k52 => k_is)
      (case a53 => k_is)
      (case l53 => k_is)
      (case c53 => k_is)
      (case k53 => k_is)
      (case a54 => k_is)
      (case l54 => k_is)
      (case c54 => k_is)
      (case k54 => k_is)
      (case a55 => k_is)
      (case l55 => k_is)
      (case c55 => k_is)
      (case k55 => k_is)
      (case a56 => k_is)
      (case l56 => k_is)
      (case c56 => k_is)
      (case k56 => k_is)
      (case a57 => k_is)
      (case l57 => k_is)
      (case c57 => k_is)
      (case k57 => k_is)
      (case a58 => k_is)
      (case l58 => k_is)
      (case c58 => k_is)
      (case k58 => k_is)
      (case a59 => k_is)
      (case l59 => k_is)
      (case c59 => k_is)
      (case k59 => k_is)
      (case a60 => k_is)
      (case l60 => k_is)
      (case c60 => k_is)
      (case k60 => k_is)
      (case a61 => k_is)
      (case l61 => k_is)
      (case c61 => k_is)
      (case k61 => k_is)
      (case a62 => k_is)
      (case l62 => k_is)
      (case c62 => k_is)
      (case k62 => k_is)
      (case z_LookupError => k_is)
      (case z_ValueError => k_is)
      (case z_abs => k_is)
      (case z_all => k_is)
      (case z_any => k_is)
      (case z_bool => k_is)
      (case z_dict => k_is)
      (case z_enumerate => k_is)
      (case z_int => k_is)
      (case z_isinstance => k_is)
      (case z_len => k_is)
      (case z_list => k_is)
      (case z_max => k_is)
      (case z_min => k_is)
      (case z_range => k_is)
      (case z_sorted => k_is)
      (case z_str => k_is)
      (case z_tuple => k_is)
      (case z_zip => k_is)
      (case q_LETTERS => k_is)
      (case q_LONGEST_NAME => k_is)
      (case o1_a => k_is)
      (case o1_x => k_is)
      (case o1_s => k_is)
      (case o1_n => k_is)
      (case o1_i => k_is)
      (case o1_t => k_is)
      (case o1_l => k_is)
      (case o1_c => k_is)
      (case o1_k => k_is)
      (case o1_b => k_is)
      (case o1_y => k_is)
      (case o1_g => k_is)
      (case o1_h => k_is)
      (case o1_d => k_is)
      (case o1_e => k_is)
      (case o1_m => k_is)
      (case o2_a => k_is)
      (case o2_x => k_is)
      (case o2_s => k_is)
      (case o2_n => k_is)
      (case o2_i => k_is)
      (case o2_t => k_is)
      (case o2_l => k_is)
      (case o2_c => k_is)
      (case o2_k => k_is)
      (case o2_b => k_is)
      (case o2_y => k_is)
      (case o2_g => k_is)
      (case o2_h => k_is)
      (case o2_d => k_is)
      (case o2_e => k_is)
      (case o2_m => k_is)
      (case o3_a => k_is)
      (case o3_x => k_is)
      (case o3_s => k_is)
      (case o3_n => k_is)
      (case o3_i => k_is)
      (case o3_t => k_is)
      (case o3_l => k_is)
      (case o3_c => k_is)
      (case o3_k => k_is)
      (case o3_b => k_is)
      (case o3_y => k_is)
      (case o3_g => k_is)
      (case o3_h => k_is)
      (case o3_d => k_is)
      (case o3_e => k_is)
      (case o3_m => k_is)
      (case o4_a => k_is)
      (case o4_x => k_exc)
      (case o4_k => k_is)
      (case o4_b => k_is)
      (case o4_y => k_is)
      (case o4_g => k_is)
      (case o4_h => k_is)
      (case o4_d => k_is)
      (case o4_e => k_is)
      (case o4_m => k_is)
      (case g_n => k_is)
      (case g_t => k_is)
      (case m1_1 => k_is)
      (case m1_2 => k_is)
      (case m1_3 => k_is)
      (case m1_4 => k_is)
      (case i1_LookupError => k_is)
      (case i1_ValueError => k_is)
      (case m2_1 => k_is)
      (case m2_2 => k_is)
      (case m2_3 => k_is)
      (case m2_4 => k_is)
      (case i2_LookupError => k_is)
      (case i2_ValueError => k_is)
      (case m3_1 => k_is)
      (case m3_2 => k_is)
      (case m3_3 => k_is)
      (case m3_4 => k_is)
      (case i3_LookupError => k_is)
      (case i3_ValueError => k_is)
      (case m4_1 => k_is)
      (case m4_2 => k_is)
      (case m4_3 => k_is)
      (case m4_4 => k_is)
      (case i4_LookupError => k_is)
      (case i4_ValueError => k_is)
    exact K00.law_end K00.law_true q hmg
