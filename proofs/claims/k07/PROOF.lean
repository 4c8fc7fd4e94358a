import PyProof.Rows.All
import Wide.All
import OpenK.AllK
import Wide.FinOn
import KE.KDictSum
import KE.KDictCopyH
import PyProof.DictMoreH
import HandS.ForMost
import HandS.SortInts
import HandS.NamedTupSort
import HandS.DictTup
import HandS.SetKeys
import HandS.Wide
import HandS.ExcValue
import HandS.AnyAll
import HandS.Codes
import HandS.EndTab
import HandS.IsInst
import HandS.TupLe
import HandS.Conv
import HandS.Flow
import HandS.Style
import HandS.HeadHook4
import HandS.HeadWalk
import HandS.Head2
import HandS.Exc
import HandS.WordsExc
import HandS.ExcOwn
import HandS.ExcIs
import HandS.TryOnly
import HandS.Zip
import KE.DatumOrd
import PyProof.Rows.RowBridgeK
import HandS.DictComp
import HandS.Set
import HandS.SetFor
import HandS.Strs
import HandS.HeadHook1
import HandS.HeadHook2
import HandS.TupAny
import KE.KNest
import KE.KNestM
import KE.KStateDown
import HandS.Head0
import HandS.Head1
import HandS.HeadEnd
import HandS.HeadHook3
import KE.IntBitsLaws
import PySem.Challenge.RW_commonhour_k07_whole_kin
section
set_option Elab.async false
set_option linter.all false
set_option maxRecDepth 100000
set_option maxHeartbeats 4000000
/-! sorted of tuples: whole numbers, then one text -/
namespace CH
open PySem PySem.Spec PyProof.Rows L2

def strInts (a : Str) : List Int := (a.cps.toList : List Nat).map Int.ofNat
theorem lexLt_nat : ∀ xs ys : List Nat, HT.lexLt (xs.map Int.ofNat) (ys.map Int.ofNat) = decide (xs < ys)
  | [], [] => by
    rw [List.map_nil, HT.lexLt_nil_nil]
    exact (decide_eq_false (by simp)).symm
  | [], y :: ys => by
    rw [List.map_nil, List.map_cons, HT.lexLt_nil_cons]
    exact (decide_eq_true (by simp)).symm
  | x :: xs, [] => by
    rw [List.map_nil, List.map_cons, HT.lexLt_cons_nil]
    exact (decide_eq_false (by simp)).symm
  | x :: xs, y :: ys => by
    rw [List.map_cons, List.map_cons, HT.lexLt_cons]
    by_cases e : x = y
    · subst e
      rw [if_pos rfl, lexLt_nat xs ys]
      refine decide_eq_decide.mpr ?_
      rw [List.cons_lt_cons_iff]
      constructor
      · intro h; exact .inr ⟨rfl, h⟩
      · intro h
        rcases h with h | h
        · exact absurd h (Nat.lt_irrefl _)
        · exact h.2
    · rw [if_neg (fun q => e (Int.ofNat.inj q))]
      refine decide_eq_decide.mpr ?_
      rw [List.cons_lt_cons_iff]
      constructor
      · intro h; exact .inl (by simpa using h)
      · intro h
        rcases h with h | h
        · simpa using h
        · exact absurd h.1 e

/-- v is a tuple of the ints ns, then the text z -/
def IsWd (h : Heap) (v : Value) (ns : List Int) (z : Str) : Prop := ∃ (a : Addr) (o : Obj) (its : List Value) (t : Tok) (n : Nat), v = .ref a ∧ h.get? a = some o ∧ o.cls = .type "tuple" ∧ o.data = .seq (its ++ [Value.str z t]).toArray n ∧ IntsAre its ns
theorem IsWd.keeps {h h' : Heap} {v : Value} {ns : List Int} {z : Str} (p : IsWd h v ns z) (k : ∀ b o, h.get? b = some o → o.cls = .type "tuple" → h'.get? b = some o) : IsWd h' v ns z := by
  obtain ⟨a, o, its, t, n, e, ho, hc, hd, hi⟩ := p
  exact ⟨a, o, its, t, n, e, k _ _ ho hc, hc, hd, hi⟩
def wkey (ns : List Int) (z : Str) : List Int := ns ++ strInts z
section
variable {prog : Program} {w : World} {A : Around} {E : Value → Shared → Prop} {s : Shared}
theorem wd_lex {z y : Str} {t u : Tok} {Q : Bool → Shared → Prop} : ∀ {its jts : List Value} {ns ms : List Int} {i : Nat}, IntsAre its ns → IntsAre jts ms → ns.length = ms.length → 0 < i + ns.length → Q (HT.lexLt (wkey ns z) (wkey ms y)) s →
    PySem.W.KatLex prog w A true false Q ((its ++ [Value.str z t]).zip (jts ++ [Value.str y u])) i s
  | _, _, _, _, i, .nil, .nil, _, h0, h => by
    show PySem.W.KatLex prog w A true false Q [(Value.str z t, Value.str y u)] i s
    have h : Q (HT.lexLt (strInts z) (strInts y)) s := h
    unfold strInts at h
    rw [lexLt_nat] at h
    refine PySem.W.kat_cons (wpAny_eqBool_str ?_)
    refine PySem.W.kat_go (fun e1 => ?_) (fun e1 => ?_)
    · have ex : z = y := by simpa using e1
      subst ex
      rw [decide_eq_false (List.lt_irrefl _)] at h
      exact PySem.W.kat_yes (PySem.W.kat_nil h)
    · have hi : (true && i == 0) = false := by
        have h1 : 0 < i := h0
        have : i ≠ 0 := by omega
        simp [this]
      have key := PySem.W.kat_one (prog := prog) (w := w) (A := A) (E := fun _ _ => False) (s := s) (Q := Q) (Value.str z t) (Value.str y u) (PyProof.Rows.lt_str h)
      rw [← hi] at key
      exact PySem.W.kat_no key
  | _, _, _, _, i, .cons a v hi, .cons b v2 hj, hl, h0, h => by
    rename_i its' ns' jts' ms'
    show PySem.W.KatLex prog w A true false Q ((Value.int a v, Value.int b v2) :: ((its' ++ [Value.str z t]).zip (jts' ++ [Value.str y u]))) i s
    have hl' : ns'.length = ms'.length := Nat.succ.inj hl
    have h : Q (HT.lexLt (a :: wkey ns' z) (b :: wkey ms' y)) s := h
    rw [HT.lexLt_cons] at h
    refine PySem.W.kat_cons (SeqAt.EqAt.int_int a v b v2 prog w _ _ ?_)
    refine PySem.W.kat_go (fun e1 => ?_) (fun e1 => ?_)
    · have ex : a = b := by simpa using e1
      rw [if_pos ex] at h
      exact PySem.W.kat_yes (wd_lex hi hj hl' (by omega) h)
    · have ex : ¬ a = b := by simpa using e1
      rw [if_neg ex] at h
      refine PySem.W.kat_no ?_
      cases hb : (true && i == 0) with
      | true => exact oneLt_int h
      | false => exact PySem.W.kat_one _ _ (PyProof.Rows.lt_int h)
theorem wd_cmp {vs : List Value} {k : Value → List Int × Str} {m : Nat} (hm0 : 0 < m) (hp : ∀ v ∈ vs, IsWd s.heap v (k v).1 (k v).2 ∧ (k v).1.length = m) : SrtO.Cmp prog w A s (tuples' true) (fun p => p.1 ∈ vs) (SrtO.lt2 fun v u => HT.lexLt (wkey (k v).1 (k v).2) (wkey (k u).1 (k u).2)) := by
  intro p q hm hm'
  obtain ⟨h1, l1⟩ := hp _ hm
  obtain ⟨h2, l2⟩ := hp _ hm'
  show wpAny (model prog w) A (keyLt' (tuples' true) p.1 q.1) (fun r s' => s' = s ∧ r = HT.lexLt (wkey (k p.1).1 (k p.1).2) (wkey (k q.1).1 (k q.1).2)) (fun _ _ => False) s
  generalize (k p.1).1 = x at h1 l1 ⊢
  generalize (k p.1).2 = y at h1 ⊢
  generalize (k q.1).1 = x' at h2 l2 ⊢
  generalize (k q.1).2 = y' at h2 ⊢
  obtain ⟨a, o, its, t, n, e, ho, hc, hd, hi⟩ := h1
  obtain ⟨a', o', its', t', n', e', ho', hc', hd', hi'⟩ := h2
  rw [e, e']
  have z1 : its.length = m := hi.length.trans l1
  have z2 : its'.length = m := hi'.length.trans l2
  refine PySem.W.kat_lt ho hd ho' hd' ?_
  have ef : decide ((its ++ [Value.str y t]).toArray.size < (its' ++ [Value.str y' t']).toArray.size) = false := decide_eq_false (by
    simp only [List.size_toArray, List.length_append, List.length_cons, List.length_nil]
    omega)
  rw [ef]
  exact wd_lex hi hi' (l1.trans l2.symm) (by omega) ⟨rfl, rfl⟩
theorem wd_firsts {h : Heap} {k : Value → List Int × Str} {m : Nat} (hm0 : 0 < m) : ∀ {vs : List Value}, (∀ v ∈ vs, IsWd h v (k v).1 (k v).2 ∧ (k v).1.length = m) → ∃ fs : List Value, PySem.W.KatTups h vs fs ∧ fs.length = vs.length ∧ ∀ f ∈ fs, ∃ x t, f = Value.int x t
  | [], _ => ⟨[], PySem.W.KatTups.nil, rfl, fun _ hm => by simp at hm⟩
  | v :: vs, hp => by
    obtain ⟨fs, h1, h2, h3⟩ := wd_firsts (k := k) hm0 (vs := vs) fun v' hm => hp v' (List.mem_cons_of_mem _ hm)
    obtain ⟨⟨a, o, its, t, n, e, ho, hc, hd, hi⟩, l⟩ := hp v (List.mem_cons_self ..)
    have z1 : its.length = m := hi.length.trans l
    generalize hk : (k v).1 = ns at hi l
    cases hi with
    | nil => simp at z1; omega
    | cons x tx hi' =>
      refine ⟨.int x tx :: fs, ?_, by rw [List.length_cons, List.length_cons, h2], fun f hm => ?_⟩
      · subst e
        exact PySem.W.KatTups.cons ho hc hd (by simp) h1
      · rcases List.mem_cons.mp hm with rfl | hm
        · exact ⟨x, tx, rfl⟩
        · exact h3 f hm
theorem wd_sortable {a : Addr} {vs : List Value} {k : Value → List Int × Str} {m : Nat} (hm0 : 0 < m) (h0 : 0 < vs.length) (hp : ∀ v ∈ vs, IsWd s.heap v (k v).1 (k v).2 ∧ (k v).1.length = m) (ha : ∀ o, s.heap.get? a = some o → o.cls ≠ .type "tuple") :
    SrtO.SortableO prog w A s a vs fun v u => HT.lexLt (wkey (k v).1 (k v).2) (wkey (k u).1 (k u).2) := by
  intro h' keep
  have hp' : ∀ v ∈ vs, IsWd h' v (k v).1 (k v).2 ∧ (k v).1.length = m := fun v hm => ⟨(hp v hm).1.keeps fun b o e c => keep b o (fun z => by subst z; exact ha o e c) e, (hp v hm).2⟩
  obtain ⟨fs, h1, h2, h3⟩ := wd_firsts hm0 hp'
  refine ⟨tuples' true, fun Q E hq => ?_, wd_cmp (s := { s with heap := h' }) hm0 hp'⟩
  refine PySem.W.kat_kind (s := { s with heap := h' }) (T := .type "int") h1 (by omega) (fun f hm => ?_) (by rfl) ?_
  · obtain ⟨x, t, rfl⟩ := h3 f hm
    exact PySem.W.Looks.now
  · have e : (Value.type "int" != Value.type "tuple") = true := by first | decide +kernel | rfl | decide
    rw [e]
    exact hq
end
end CH
end

section
set_option Elab.async false
set_option linter.all false
set_option maxRecDepth 100000
set_option maxHeartbeats 4000000
namespace CH
open PySem PySem.Spec PyProof.Rows L2
/-! ### sorted of words, by rules of the layer -/
def wdV (p : List Int × Str) : List V := p.1.map V.int ++ [.str p.2]
def adO : Value → Addr
  | .ref a => a
  | _ => 0
theorem vals_wd {h : Heap} {t : Addr} {p : List Int × Str} {its : List Value} (r : Vals (wdV p) its) (ht : IsTup h t its.toArray) : IsWd h (.ref t) p.1 p.2 := by
  obtain ⟨o, ho, hc, n, hd⟩ := ht
  obtain ⟨ns, z⟩ := p
  unfold wdV at r
  have split : ∀ (ns : List Int) (its : List Value), Vals (ns.map V.int ++ [V.str z]) its → ∃ js t, its = js ++ [Value.str z t] ∧ IntsAre js ns := by
    intro ns
    induction ns with
    | nil =>
      intro its r
      cases r with
      | cons r1 r2 =>
        cases r2
        obtain ⟨t, rfl⟩ := r1
        exact ⟨[], t, rfl, .nil⟩
    | cons n ns ih =>
      intro its r
      cases r with
      | cons r1 r2 =>
        obtain ⟨t, rfl⟩ := r1
        obtain ⟨js, t2, rfl, hi⟩ := ih _ r2
        exact ⟨Value.int n t :: js, t2, rfl, .cons n t hi⟩
  obtain ⟨js, tk, rfl, hi⟩ := split ns its r
  exact ⟨t, o, js, tk, n, rfl, ho, hc, hd, hi⟩
theorem refs_vals : ∀ {ts : List Addr} {us : List Value}, Vals (ts.map V.ref) us → us = ts.map Value.ref
  | [], us, r => by
    cases r
    rfl
  | t :: ts, us, r => by
    cases r with
    | cons h q =>
      cases h
      rw [List.map_cons, ← refs_vals q]
theorem vals_refs : ∀ ts : List Addr, Vals (ts.map V.ref) (ts.map Value.ref)
  | [] => .nil
  | _ :: ts => .cons rfl (vals_refs ts)
theorem ad_map (ts : List Addr) : (ts.map Value.ref).map adO = ts := by
  rw [List.map_map]
  exact (List.map_congr_left fun _ _ => rfl).trans (List.map_id ts)
theorem ref_map : ∀ {out : List Value}, (∀ v ∈ out, ∃ t, v = Value.ref t) → out = (out.map adO).map Value.ref
  | [], _ => rfl
  | v :: out, h => by
    obtain ⟨t, e⟩ := h v List.mem_cons_self
    subst e
    rw [List.map_cons, List.map_cons, ← ref_map fun u hu => h u (List.mem_cons_of_mem _ hu)] <;> rfl
abbrev keyOf (k : Addr → List Int × Str) (t : Addr) : List Int := wkey (k t).1 (k t).2
abbrev ltVk (k : Addr → List Int × Str) : Value → Value → Bool := fun v u => HT.lexLt (wkey (k (adO v)).1 (k (adO v)).2) (wkey (k (adO u)).1 (k (adO u)).2)
theorem ltVk_swo (k : Addr → List Int × Str) : SrtO.Swo (ltVk k) := NtL.swo_lexL fun v => wkey (k (adO v)).1 (k (adO v)).2
/-- what comes out of the sort -/
theorem wd_out {k : Addr → List Int × Str} {ts : List Addr} {out : List Value} (h1 : SrtO.Srtd (ltVk k) out) (h2 : SrtO.Stb (ltVk k) out (ts.map Value.ref)) :
    ∃ ts' : List Addr, out = ts'.map Value.ref ∧ ts'.Perm ts ∧ ts'.Pairwise fun x y => HT.lexLt (keyOf k y) (keyOf k x) = false := by
  have eo : out = (out.map adO).map Value.ref := ref_map fun u hm => by
    obtain ⟨t, _, e⟩ := List.mem_map.mp (h2.perm.mem_iff.mp hm)
    exact ⟨t, e.symm⟩
  refine ⟨out.map adO, eo, ?_, List.pairwise_map.mpr (h1.imp fun {x y} z => z)⟩
  have p1 := h2.perm.map adO
  rw [ad_map] at p1
  exact p1
/-- the words' places -/
def WdsAt (K : PySem.W.Frag) (H : Hp) (k : Addr → List Int × Str) (m : Nat) (ts : List Addr) : Prop := ∀ t ∈ ts, SqT K H t (wdV (k t)) ∧ (k t).1.length = m
/-- sorted(xs), xs a list of tuples: m ints, a text -/
def rSortWd (K : PySem.W.Frag) : List V → Hp → VK → Prop := fun vs H Q => ∃ (a : Addr) (ts : List Addr) (k : Addr → List Int × Str) (m : Nat), vs = [V.ref a] ∧ SqL K H a (ts.map V.ref) ∧ 0 < m ∧ WdsAt K H k m ts ∧
  ∀ (ts' : List Addr) (q : Addr), ts'.Perm ts → ts'.Pairwise (fun x y => HT.lexLt (keyOf k y) (keyOf k x) = false) → H q = none → Q (.ref q) (upd H q (.lst (ts'.map V.ref)))
/-- the view d.values() at p -/
def valsO (p d : Addr) : HO := .ext fun h => h.IsValuesView p d
theorem valsO_ok {P : Program} {w : World} {H : Hp} {h : Heap} {p d : Addr} (e : h.get? p = some { cls := .type "dict_values", data := .fields #[.ref d] }) : ObjOk P w H h p (valsO p d) :=
  ⟨⟨_, e, rfl, rfl⟩, ⟨_, e⟩, fun h1 h2 x k => let ⟨o, ho, r⟩ := x; ⟨o, k o ho, r⟩⟩
def rValuesT : V → List V → Hp → VK → Prop := fun x xs H Q => ∃ (a : Addr) (kvs : List (List L2.Key × V)), x = .ref a ∧ xs = [] ∧ H a = some (.dT kvs) ∧ ∀ p, H p = none → Q (.ref p) (upd H p (valsO p a))
/-- sorted(d.values()), the values such tuples -/
def rSortVals (K : PySem.W.Frag) : List V → Hp → VK → Prop := fun vs H Q => ∃ (p a : Addr) (kvs : List (List L2.Key × V)) (ts : List Addr) (k : Addr → List Int × Str) (m : Nat), vs = [V.ref p] ∧ H p = some (valsO p a) ∧ H a = some (.dT kvs) ∧ kvs.map (·.2) = ts.map V.ref ∧ 0 < m ∧ WdsAt K H k m ts ∧
  ∀ (ts' : List Addr) (q : Addr), ts'.Perm ts → ts'.Pairwise (fun x y => HT.lexLt (keyOf k y) (keyOf k x) = false) → H q = none → Q (.ref q) (upd H q (.lst (ts'.map V.ref)))
theorem objOk_there {P : Program} {w : World} {H : Hp} {h : Heap} {a : Addr} {o : HO} (x : ObjOk P w H h a o) : ∃ u, h.get? a = some u := by
  cases o with
  | lst xs => exact let ⟨_, _, _, _, e⟩ := x; ⟨_, e⟩
  | tup xs => exact let ⟨_, _, _, o, e, _⟩ := x; ⟨o, e⟩
  | dK kvs => exact let ⟨_, _, _, _, o, _, _, e, _⟩ := x; ⟨o, e⟩
  | dT kvs => exact let ⟨_, _, _, _, o, _, _, e, _⟩ := x; ⟨o, e⟩
  | set S n => exact let ⟨o, _, _, _, e, _⟩ := x; ⟨o, e⟩
  | ins C dx fs => exact let ⟨_, _, _, e, _⟩ := x; ⟨_, e⟩
  | own y => exact x
  | xd fs => exact let ⟨_, ⟨o, _, _, e, _⟩, _⟩ := x; ⟨o, e⟩
  | rng lo hi => exact let ⟨_, _, _, e⟩ := x; ⟨_, e⟩
  | frz ob u => exact let ⟨e, _⟩ := x; ⟨_, e⟩
  | tbl ps => exact ⟨_, x⟩
  | met f y => exact ⟨_, x⟩
  | ext φ => exact let ⟨_, e, _⟩ := x; e
section
variable {X : Cx}
theorem wds_heap {pins : List (Addr × Obj)} {σ : L2.St} {H : Hp} {s : Shared} {k : Addr → List Int × Str} {m : Nat} {ts : List Addr} (I : Inv X pins σ H s) (hx : WdsAt X.K H k m ts) :
    ∀ v ∈ ts.map Value.ref, IsWd s.heap v (k (adO v)).1 (k (adO v)).2 ∧ (k (adO v)).1.length = m := fun v hv => by
  obtain ⟨t, ht, rfl⟩ := List.mem_map.mp hv
  obtain ⟨h1, h2⟩ := hx t ht
  obtain ⟨its, r, it, _⟩ := I.tuple h1
  exact ⟨vals_wd r it, h2⟩
theorem cr_sortedWd : CallR X (.builtin "sorted") (rSortWd X.K) := by
  intro pins s σ H vs us Q I r h
  obtain ⟨a, ts, k, m, rfl, hs, hm, hx, q⟩ := h
  obtain ⟨its, rv, hl, hz⟩ := I.list hs
  rw [Vals.ref1 r]
  obtain rfl := refs_vals rv
  have hz' : (ts.map Value.ref).length ≤ sizeLine := by rw [List.length_map] at hz ⊢; exact hz
  have hw := wds_heap I hx
  refine SrtO.sorted_ord (ltVk_swo k) hl.isList hz' (fun h2 h₁ a' ha kk => ?_) fun out h1 h2 => ?_
  · refine wd_sortable (k := fun v => k (adO v)) (s := { s with heap := h₁ }) hm (by omega) (fun v hv => ⟨(hw v hv).1.keeps fun b o e _ => (kk b o e).2, (hw v hv).2⟩) fun o e => ?_
    have e' : some o = some (seqObj "list" (ts.map Value.ref).toArray 0) := e.symm.trans ha
    cases e'
    intro c
    exact absurd (Value.type.inj c) (by decide)
  · obtain ⟨ts', rfl, k2, k3⟩ := wd_out h1 h2
    obtain ⟨ep, he'⟩ := PyProof.Rows.sortedAll_at s.heap (ts.map Value.ref) (ts'.map Value.ref).toArray
    have hlen : (ts'.map V.ref).length ≤ sizeLine := by
      rw [List.length_map, k2.length_eq]
      rw [List.length_map] at hz
      exact hz
    exact ⟨.ref _, upd H (s.heap.objs.size + 1) (.lst (ts'.map V.ref)), I.laid (t' := s.toks) (fun _ _ => PyProof.Rows.sortedAll_old) (Nat.le_succ _) ⟨hlen, _, ep, vals_refs ts', he'⟩, rfl, q _ _ k2 k3 (I.hok.fresh (Nat.le_succ _))⟩
theorem mt_valuesT : MtR X "dict.values" rValuesT := by
  intro pins s σ H x xs v us Q I rx rxs h
  obtain ⟨a, kvs, rfl, rfl, ha, q⟩ := h
  cases rx
  cases rxs
  obtain ⟨z, hd, xs', rel, o, es, ep, ho, hx, hdat, _⟩ := dt_of I.hok ha
  have raw : s.heap.DictRaw a es ep := ⟨o, ho, hx, hdat⟩
  refine call_meetsIn PySem.F.slot_dict_values raw.typeIs PySem.F.entry_dict_values (PySem.F.args_dict_values_1 _) (meets_dict_values_raw a hd) ⟨⟨es, ep, raw⟩, ?_⟩
  have hf : H s.heap.objs.size = none := I.hok.fresh (Nat.le_refl _)
  exact ⟨.ref s.heap.objs.size, upd H s.heap.objs.size (valsO s.heap.objs.size a), I.laid (t' := s.toks) (fun b u e => Heap.get?_push_of_some _ e) (Nat.le_refl _) (valsO_ok (Heap.get?_push_size _ rfl)), rfl, q _ hf⟩
theorem kt_vals {H : Hp} : ∀ {kvs : List (List L2.Key × V)} {xs : List (List L2.Key × Addr × Value)}, KT H kvs xs → Vals (kvs.map (·.2)) (xs.map (·.2.2))
  | _, _, .nil => .nil
  | _, _, .cons h t => .cons h.2.2 (kt_vals t)
theorem cr_sortedVals (hc : X.calm = true) : CallR X (.builtin "sorted") (rSortVals X.K) := by
  intro pins s σ H vs us Q I r h
  obtain ⟨p, a, kvs, ts, k, m, rfl, hp, ha, ek, hm, hx, q⟩ := h
  obtain rfl := Vals.ref1 r
  have view : s.heap.IsValuesView p a := (show ObjOk X.prog X.w H s.heap p (valsO p a) from I.hok p _ hp).1
  obtain ⟨z, hd, xs', rel, dd⟩ := dt_of I.hok ha
  obtain ⟨es, ep, raw, hes, hat⟩ := dd.raw
  have hh : X.A.handled = none := I.ok.hd hc
  have lk : kvs.length = xs'.length := Paired.length rel
  have rv := kt_vals rel
  rw [ek] at rv
  have ev := refs_vals rv
  have lt : ts.length = xs'.length := by
    have e := congrArg List.length ev
    rw [List.length_map, List.length_map] at e
    exact e.symm
  have hz : xs'.length ≤ sizeLine := by rw [← lk]; exact z
  have hw := wds_heap I hx
  refine Calls.call_function_entry kind_sorted plain_sorted entry_sorted (args_sorted1 _) ?_
  unfold Builtin.«sorted»
  refine wpAny_bind (m := checkCount "sorted" 1 1 _) (wpAny_pure ?_)
  refine wpAny_bind (PySem.W.kdu_collect (A := X.A.in1) (KdlSrc.rawValues (es := es) (ep := ep)) hh ⟨view, raw⟩ (by rw [hes]; exact hz) fun h' tk acc hk hacc => ?_)
  have eacc : acc.toList = ts.map Value.ref := by
    refine List.ext_getElem? fun j => ?_
    by_cases hj : j < es.size
    · have hj2 : j < acc.size := by rw [hacc.1]; exact hj
      obtain ⟨hj3, e⟩ := hacc.2 j acc[j] (Array.getElem?_eq_getElem hj2)
      obtain ⟨y, hy, _, e2, _⟩ := hat j hj
      rw [Array.getElem?_toList, Array.getElem?_eq_getElem hj2, e, e2, ← ev, List.getElem?_map, hy] <;> rfl
    · rw [List.getElem?_eq_none (by rw [Array.length_toList, hacc.1]; omega), List.getElem?_eq_none (by rw [List.length_map]; omega)]
  rw [eacc]
  have hzt : (ts.map Value.ref).length ≤ sizeLine := by rw [List.length_map, lt]; exact hz
  refine wpAny_bind (wpAny_newList ?_ hzt)
  have hob : (h'.push (seqObj "list" (ts.map Value.ref).toArray 0)).get? h'.objs.size = some (seqObj "list" (ts.map Value.ref).toArray 0) := Heap.get?_push_size _ rfl
  have kb : ∀ b o, s.heap.get? b = some o → (h'.push (seqObj "list" (ts.map Value.ref).toArray 0)).get? b = some o := fun b o e => Heap.get?_push_of_some _ (hk b o e)
  have ne0 : ∀ b o, s.heap.get? b = some o → b ≠ h'.objs.size := fun b o e => Nat.ne_of_lt (Heap.lt_size (hk b o e))
  refine wpAny_bind (wpAny_holding (wpAny_call_entry slot_list_sort ⟨_, hob, rfl⟩ entry_list_sort
    (SrtO.list_sort_ord (ltVk_swo k) hob hzt (fun h2 => wd_sortable (k := fun v => k (adO v)) hm (by omega) (fun v hv => ⟨(hw v hv).1.keeps fun b o e _ => kb b o e, (hw v hv).2⟩) fun o e => ?_) fun out h1 h2 => ⟨_, rfl, ?_⟩) (args_list_sort _)))
  · have e' : some o = some (seqObj "list" (ts.map Value.ref).toArray 0) := e.symm.trans hob
    cases e'
    intro c
    exact absurd (Value.type.inj c) (by decide)
  · obtain ⟨ts', rfl, k2, k3⟩ := wd_out h1 h2
    obtain ⟨ep', he'⟩ := PyProof.Rows.sortedHeap_at (vs := ts.map Value.ref) (out := (ts'.map Value.ref).toArray) hob
    have hlen : (ts'.map V.ref).length ≤ sizeLine := by
      rw [List.length_map, k2.length_eq, lt]
      exact hz
    have kf : ∀ b o, s.heap.get? b = some o → (sortedHeap (h'.push (seqObj "list" (ts.map Value.ref).toArray 0)) h'.objs.size (ts.map Value.ref) (ts'.map Value.ref).toArray).get? b = some o := fun b o e =>
      (PyProof.Rows.sortedHeap_old (ne0 b o e) (Heap.lt_size (kb b o e))).trans (kb b o e)
    have nH : H h'.objs.size = none := by
      cases e : H h'.objs.size with
      | none => rfl
      | some u =>
        obtain ⟨o, ho⟩ := objOk_there (I.hok _ _ e)
        exact absurd rfl (ne0 _ o ho)
    have nS : s.heap.get? h'.objs.size = none := by
      cases e : s.heap.get? h'.objs.size with
      | none => rfl
      | some o => exact absurd rfl (ne0 _ o e)
    exact wpAny_pure ⟨_, rfl, .ref _, upd H h'.objs.size (.lst (ts'.map V.ref)), I.laidN (t' := tk) kf nS nH ⟨hlen, _, ep', vals_refs ts', he'⟩, rfl, q _ _ k2 k3 nH⟩
end
end CH
end

section
set_option Elab.async false
set_option linter.all false
set_option maxRecDepth 100000
set_option maxHeartbeats 4000000
namespace CH
open PySem PySem.Spec PyProof.Rows L2
/-! ### d.setdefault(t, x), the keys tuples -/
def tSetdT (td ty tx : TE) : TE := fun σ H Q => td σ H fun x H1 => ∃ a, x = .ref a ∧ IsD H1 a ∧ ty σ H1 fun y H2 => tx σ H2 fun z H3 => ∃ (kvs : List (List Key × V)) (k : List Key) (b : Addr), H3 a = some (.dT kvs) ∧ y = .ref b ∧ H3 b = some (.tup (k.map kV)) ∧ kvs.length < sizeLine ∧
  (∀ v, valV kvs k = some v → Q v H3) ∧ (valV kvs k = none → Q z (upd H3 a (.dT (putK kvs k z))))
section
variable {X : Cx} {pins : List (Addr × Obj)} {σ : L2.St} {H : Hp} {s : Shared} {a b : Addr} {r : Value} {d : V} {A : Around} {E : Value → Shared → Prop}
theorem t_setd {kvs : List (List Key × V)} {k : List Key} {Q : Value → Shared → Prop} (hu : A.units + 1 < cLine) (I : Inv X pins σ H s) (e : H a = some (.dT kvs)) (eb : H b = some (.tup (k.map kV))) (rd : RelV d r) (hl : kvs.length < sizeLine)
    (h1 : ∀ v, valV kvs k = some v → ∀ (w' : Value) (s' : Shared), Inv X pins σ H s' → RelV v w' → Q w' s') (h2 : valV kvs k = none → ∀ (s' : Shared), Inv X pins σ (upd H a (.dT (putK kvs k d))) s' → Q r s') :
    wpAny (model X.prog X.w) A (call (.builtin "dict.setdefault") [.ref a, .ref b, r]) Q E s := by
  obtain ⟨z, hd, xs, rel, dd⟩ := dt_of I.hok e
  have hz : xs.length ≤ sizeLine := by
    rw [← Paired.length rel]
    exact z
  have hv := rel.val k
  refine call_setdefault_heap (hsz := hz) (tupleKind_room_in1 hu) (key_of I.hok eb) hd dd (fun p hp => ?_) fun hn h' dd' hs => ?_
  · rw [hp] at hv
    cases q0 : valV kvs k with
    | none =>
      rw [q0] at hv
      exact (show False from hv).elim
    | some v0 =>
      rw [q0] at hv
      exact h1 v0 q0 _ _ (I.tok _) hv
  · rw [hn] at hv
    cases q0 : valV kvs k with
    | some v0 =>
      rw [q0] at hv
      exact (show False from hv).elim
    | none =>
      have hl2 : (putK kvs k d).length ≤ sizeLine := by
        have := length_putK kvs k d
        omega
      refine h2 q0 _ ?_
      obtain ⟨o, es, ep, ho, c2, c3, c4, _, c5⟩ := dd'
      refine d_write I (by rw [e]; exact True.intro) hs ⟨o, ho⟩ ⟨hl2, hd, _, (rel.put k eb rd).keeps fun c ys ec => ?_, o, es, ep, ho, c2, c3, c4, c5⟩
      rw [upd_ne (ne_of ec e (fun z => nomatch z))]
      exact ec
variable {o e f : Expr} {td ty tx : TE} {apos cpos : Pos}
theorem pe_setdT (hu : X.A.units + 1 < cLine) (ho : PE X o td) (he : PE X e ty) (hf : PE X f tx) (m : M2 X o "setdefault" apos e f cpos) : PE X (.Call (.Attribute o "setdefault" apos) [e, f] [] cpos) (tSetdT td ty tx) := by
  refine ⟨fun pins s σ H Q I h => ?_⟩
  refine wpAny_Call_method m.base m.few m.line PySem.F.plainAttrs_dict PySem.F.slot_dict_setdefault PySem.F.type_dict_setdefault (thn (ho.run pins s σ H _ I h) fun u s1 hx => ?_)
  obtain ⟨x, H1, I1, rx, a, rfl, d, q1⟩ := hx
  obtain rfl : u = Value.ref a := rx
  obtain ⟨t1, t2, _⟩ := isD_at I1 d
  refine ⟨t1, t2, ?_⟩
  rw [m.trees]
  refine Calls.callWith_builtin rfl (Calls.evalArgs_plain (Calls.spliced_cons (thn (he.run pins s1 σ H1 _ I1 q1) fun iv s2 hy => ?_)))
  obtain ⟨y, H2, I2, ry, q2⟩ := hy
  refine Calls.spliced_cons (thn (hf.run pins s2 σ H2 _ I2 q2) fun fv s3 hz => Calls.spliced_nil ?_)
  obtain ⟨z, H3, I3, rz, kvs, k, b, ea, rfl, eb, hl, q3, q4⟩ := hz
  obtain rfl : iv = Value.ref b := ry
  exact t_setd hu I3 ea eb rz hl (fun v hv w' s4 I4 rw' => ⟨v, _, I4, rw', q3 v hv⟩) fun hn s4 I4 => ⟨z, _, I4, rz, q4 hn⟩
/-! ### products of great numbers: together less than a hundred million bits -/
def CMulH (i j : Int) : Prop := i.natAbs.log2 + j.natAbs.log2 < 100000000
theorem CMulH.ok {i j : Int} (h : CMulH i j) : IntMulOk i j := by
  have bits : ∀ x : Int, Builtin.Int.intBits x ≤ x.natAbs.log2 + 1 := fun x => by
    unfold Builtin.Int.intBits
    split <;> omega
  have b1 := bits i
  have b2 := bits j
  have hh : i.natAbs.log2 + j.natAbs.log2 < 100000000 := h
  have line : bitsLine = 134217728 := by decide
  unfold IntMulOk
  intro z
  have big := (Bool.and_eq_true_iff.mp z).2
  unfold Builtin.Int.intTooBig at big
  have big2 := of_decide_eq_true big
  rw [line] at big2
  omega
theorem op_mulH : OpR X (binaryOp .Mult) (rI CMulH fun i j => .int (i * j)) := opI fun _ _ _ _ _ _ _ hc q => mul_int q hc.ok
theorem huge_mul {i j : Int} {a b : Nat} (ha : i.natAbs < 2 ^ a) (hb : j.natAbs < 2 ^ b) (h0 : 0 < a) (h1 : 0 < b) (h : a + b ≤ 100000000) : CMulH i j := by
  have x := PySem.Flt.log2_lt_of h0 ha
  have y := PySem.Flt.log2_lt_of h1 hb
  unfold CMulH
  omega
end
end CH
end

section
set_option Elab.async false
set_option linter.all false
set_option maxRecDepth 100000
set_option maxHeartbeats 4000000
namespace CH
open PySem PySem.Spec PyProof.Rows L2
open GxR (TabB TabG Tabbed)
/-! ### any, all of a generator expression over a tuple or a list -/
/-- the generator expression's own scope; captured names are cells of the def -/
structure GnS (sc scope : Scope) (x : Str) : Prop where
  kind : scope.kind = .function
  co : scope.isCoroutine = false
  cell : ∀ y ∈ scope.names, y.2 ≠ .cell
  dot : scope.names.lookup (".0" : Str) = some NameKind.local
  loc : scope.names.lookup x = some .local
  free : ∀ y ∈ scope.names, y.2 = .free → sc.names.lookup y.1 = some .cell ∨ sc.names.lookup y.1 = some .free
def gnSB (sc scope : Scope) (x : Str) : Bool :=
  decide (scope.kind = .function) && (!scope.isCoroutine && ((scope.names.all fun y => !decide (y.2 = .cell)) && (decide (scope.names.lookup (".0" : Str) = some NameKind.local) && (decide (scope.names.lookup x = some .local) &&
    scope.names.all fun y => !decide (y.2 = .free) || (decide (sc.names.lookup y.1 = some .cell) || decide (sc.names.lookup y.1 = some .free))))))
theorem gnS_by {sc scope : Scope} {x : Str} (h : gnSB sc scope x = true) : GnS sc scope x := by
  unfold gnSB at h
  simp only [Bool.and_eq_true, Bool.or_eq_true, Bool.not_eq_true', decide_eq_true_eq, decide_eq_false_iff_not, List.all_eq_true] at h
  obtain ⟨h1, h2, h3, h4, h5, h6⟩ := h
  refine ⟨h1, h2, fun y hy => h3 y hy, h4, h5, fun y hy e => ?_⟩
  rcases h6 y hy with z | z
  · exact absurd e z
  · exact z
theorem GnS.has {X : Cx} {scope : Scope} {x : Str} (S : GnS X.env.scope scope x) (ok : X.Ok) : ∀ y ∈ scope.names, y.2 = .free → ∃ c, X.env.cells.lookup y.1 = some c := fun y hy e => by
  rcases S.free y hy e with k | k
  · exact ok.has _ (.inl k)
  · exact ok.has _ (.inr k)
/-- a captured name's cell, in the generator's frame -/
theorem clo_look {cells : List (Str × Addr)} {names : List (Str × NameKind)} {y : Str} {c : Addr} (hy : names.lookup y = some .free) (hc : cells.lookup y = some c) : (cloFrom cells names []).lookup y = some c := by
  obtain ⟨c', e'⟩ := mem_lookup (cloFrom_has (cells := cells) (acc := []) (PySem.mem_of_lookup hy))
  rcases cloFrom_mem (PySem.mem_of_lookup e') with m | ⟨_, rfl⟩
  · exact absurd m (by simp)
  · rw [e', hc] <;> rfl
/-- the element's answers pb over the items its, wherever the objects of h (but the table at P) stand -/
def EltG (X : Cx) (scope : Scope) (x : Str) (elt : Expr) (its : List Value) (pb : Nat → Bool) (h : Heap) (P : Addr) : Prop :=
  ∀ (cenv : Env) (A' : Around) (E' : Value → Shared → Prop) (i : Nat) (v : Value) (s₂ : Shared) (m₂ : Str → Option Value), A'.handled = none → cenv.scope = scope → cenv.cells = cloFrom X.env.cells scope.names [] →
    its[i]? = some v → s₂.heap.Ns cenv.locals m₂ → m₂ x = some v → (∀ b o, b ≠ P → h.get? b = some o → s₂.heap.get? b = some o) →
    wpAny (model X.prog X.w) A' (eval elt cenv) (fun y s₃ => y = .bool (pb i) ∧ Keeps s₂ s₃) E' s₂
section
variable {X : Cx} {pins : List (Addr × Obj)} {σ : L2.St} {H : Hp} {s : Shared}
theorem keeps_id (s : Shared) : Keeps s s := ⟨s.heap, s.toks, rfl, fun _ _ e => e⟩
theorem all_passing (n : Nat) : passing (fun _ => true) n 0 = List.range n := by
  unfold passing
  simp
/-- the generator g over n items, ready to be walked in the state s5; H1: what was held before -/
def GReady (X : Cx) (pins : List (Addr × Obj)) (σ : L2.St) (H1 : Hp) (P : Addr) (n : Nat) (pb : Nat → Bool) (g : Addr) (s5 : Shared) : Prop :=
  ∃ (fp wr : List Addr) (G : Array GenState → Array GenState → Prop) (F : Nat → Value → Prop) (Sx : Nat → Shared → Prop),
    WalksS X.prog X.w X.A.in1 g fp wr G n F Sx ∧ Sx 0 s5 ∧ (∀ j y, F j y → y = .bool (pb j)) ∧
    ∀ s', Moved wr G s5 s' → ∃ H2, Tabbed P H1 H2 ∧ Inv X pins σ H2 s'
/-- what the walked thing gives: an iterator oI pushed on the heap, its walk -/
def GSrc (X : Cx) (s1 : Shared) (xv : Value) (its : List Value) : Prop :=
  ∃ (oI : Obj) (Sx : Nat → Heap → Prop) (a : Addr), a < s1.heap.objs.size ∧ (∀ vs, s1.heap.get? a ≠ some { cls := .none, data := .fields vs }) ∧
    (∀ (Q : Value → Shared → Prop) (E : Value → Shared → Prop), Q (.ref s1.heap.objs.size) { s1 with heap := s1.heap.push oI } → wpAny (model X.prog X.w) X.A (pyIter xv) Q E s1) ∧
    (∀ A' : Around, A'.handled = none → Walks X.prog X.w A' s1.heap.objs.size [s1.heap.objs.size, a] [s1.heap.objs.size] its.length (fun i v => its[i]? = some v) Sx) ∧ Sx 0 (s1.heap.push oI)
theorem gsrc_tup {s1 : Shared} {a : Addr} {its : List Value} (ht : s1.heap.IsTuple a its.toArray) : GSrc X s1 (.ref a) its := by
  have hlt : a < s1.heap.objs.size := let ⟨_, ho, _⟩ := ht; Heap.lt_size ho
  refine ⟨_, fun i h => h.IsTupleIter s1.heap.objs.size a i ∧ h.IsTuple a its.toArray, a, hlt, fun vs z => ?_, fun Q E q => wpAny_pyIter_tuple ht q, fun A' hA => ?_, ⟨⟨_, Heap.get?_push_size _ rfl, rfl, rfl⟩, ht.push _⟩⟩
  · obtain ⟨o, ho, hc, _⟩ := ht
    rw [ho] at z
    cases z
    cases hc
  have W := Walks.tuple (prog := X.prog) (w := X.w) (A := A') hA s1.heap.objs.size a (Nat.ne_of_lt hlt) its.toArray
  simpa using W
theorem gsrc_lst {s1 : Shared} {a : Addr} {its : List Value} (ht : s1.heap.IsList a its.toArray) : GSrc X s1 (.ref a) its := by
  have hlt : a < s1.heap.objs.size := let ⟨_, ho, _⟩ := ht; Heap.lt_size ho
  refine ⟨_, fun i h => h.IsListIter s1.heap.objs.size a i ∧ h.IsList a its.toArray, a, hlt, fun vs z => ?_, fun Q E q => wpAny_pyIter_list ht q, fun A' hA => ?_, ⟨⟨_, Heap.get?_push_size _ rfl, rfl, rfl⟩, ht.push _⟩⟩
  · obtain ⟨o, ho, hc, _⟩ := ht
    rw [ho] at z
    cases z
    cases hc
  have W := Walks.list (prog := X.prog) (w := X.w) (A := A') hA s1.heap.objs.size a (Nat.ne_of_lt hlt) its.toArray
  simpa using W
/-- the expression is evaluated: a generator stands ready -/
theorem gen_made {c P : Addr} {elt iter : Expr} {x : Str} {px gpos : Pos} {scope : Scope} {te : TE} {k : Nat} {Q' : Value → Shared → Prop} {R : V → Hp → Prop}
    (hr : Room k X.A) (TB : TabB X.base X.mg c P) (hcode : X.env.code = .ref c) (S : GnS X.env.scope scope x) (hi : PE X iter te)
    (hs : ∀ v, genFold iter X.env v = pure v) (I : Inv X pins σ H s) (h : te σ H R)
    (hQ : ∀ (v : V) (xv : Value) (H1 : Hp) (s1 : Shared), Inv X pins σ H1 s1 → RelV v xv → R v H1 → TabG H1 P ∧ ∃ (its : List Value) (pb : Nat → Bool), GSrc X s1 xv its ∧ EltG X scope x elt its pb s1.heap P ∧
      ∀ g s5, GReady X pins σ H1 P its.length pb g s5 → Q' (.ref g) s5) :
    wpAny (model X.prog X.w) X.A (eval (.GeneratorExp elt [⟨.Name x px, iter, [], 0⟩] scope gpos) X.env) Q' X.xe s := by
  refine wpAny_GeneratorExp_walksQ hr.hd S.co (closure_ok (S.has I.ok)) S.cell S.dot S.loc S.kind (by have := hr.dp; omega) ?_ hs
  refine thn (hi.run pins s σ H _ I h) fun xv s1 hv => ?_
  obtain ⟨v, H1, I1, r1, q1⟩ := hv
  obtain ⟨⟨ps, hP, ht⟩, its, pb, ⟨oI, Sx, a, hal, haP, hit, W, st0⟩, hel, hQ⟩ := hQ v xv H1 s1 I1 r1 q1
  refine hit _ _ ?_
  have hPs : s1.heap.get? P = some { cls := .none, data := .fields ps } := I1.hok P _ hP
  have hPlt : P < s1.heap.objs.size := Heap.lt_size hPs
  have hP2 : (s1.heap.push oI).get? P = some { cls := .none, data := .fields ps } := Heap.get?_push_of_some _ hPs
  have cd : PySem.W.CodeHd (s1.heap.push oI) c P := TB.code.keeps fun b u e => Heap.get?_push_of_some _ (I1.bk b u e)
  have lim2 : (s1.heap.push oI).NoLimit := I1.nolimit.push oI
  have sz2 : (s1.heap.push oI).objs.size = s1.heap.objs.size + 1 := Heap.size_push ..
  -- behind the code object, found or made
  have rest : ∀ (code : Value) (h3 : Heap) (tk : Nat) (ps' : Array Value), Heap.ExtBut P (s1.heap.push oI) h3 → (s1.heap.push oI).objs.size ≤ h3.objs.size → h3.get? P = some { cls := .none, data := .fields ps' } → (∃ more, ps' = ps ++ more) → TriplesOk ps'.toList →
      wpAny (model X.prog X.w) X.A (builtinsFor X.env.globals X.env.builtins) (fun bi s₄ =>
        ∃ Ia fp wr n₀ Pf St₀ pz F, Value.ref s1.heap.objs.size = .ref Ia ∧ (∀ A' : Around, A'.handled = none → Walks X.prog X.w A' Ia fp wr n₀ Pf St₀) ∧ St₀ 0 s₄.heap ∧ (∀ b ∈ fp, b < s₄.heap.objs.size) ∧ s₄.heap.NoLimit ∧ cStatics ∉ wr ∧
          (∀ href : Heap, (∀ b o, s₄.heap.get? b = some o → href.get? b = some o) →
            QuietGen X.prog X.w (genEnv scope (cloFrom X.env.cells scope.names []) s₄.heap.objs.size code bi X.env) x [] elt (List.range s₄.heap.objs.size) wr Pf pz F href) ∧
          (∀ a h₅ tk gs, gs.bare = true → s₄.heap.objs.size < a → h₅.objs.size = a + 1 → (∀ b o, s₄.heap.get? b = some o → h₅.get? b = some o) →
            WalksS X.prog X.w X.A.in4 a (a :: s₄.heap.objs.size :: List.range s₄.heap.objs.size) (s₄.heap.objs.size :: wr) (GenOnlyQ s₄.gens.size) (passing pz n₀ 0).length
              (fun j y => ∃ i, (passing pz n₀ 0)[j]? = some i ∧ F i y) (GenAt X.prog X.w X.A.in4 a s₄.gens.size s₄.heap.objs.size (List.range s₄.heap.objs.size) wr pz n₀ F) →
            GenAt X.prog X.w X.A.in4 a s₄.gens.size s₄.heap.objs.size (List.range s₄.heap.objs.size) wr pz n₀ F 0 { s₄ with gens := s₄.gens.push gs, toks := tk, heap := h₅ } →
            Q' (.ref a) { s₄ with gens := s₄.gens.push gs, toks := tk, heap := h₅ })) X.xe { s1 with heap := h3, toks := tk } := by
    intro code h3 tk ps' hx hsz hP3 hmore ht3
    obtain ⟨bm, ob, e1, e2, e3, e4, e5, e6, e7, e8⟩ := TB.bm
    have hcP : cStatics ≠ P := fun e => by
      obtain ⟨_, hns, _⟩ := I1.nolimit
      obtain ⟨o', es, ep, ho, hd, _⟩ := hns
      rw [e, hPs] at ho
      cases ho
      cases hd
    have h3s : s1.heap.objs.size < h3.objs.size := by
      rw [sz2] at hsz
      exact hsz
    have hcl : cStatics < s1.heap.objs.size := let ⟨_, hns, _⟩ := I1.nolimit; hns.lt
    have keep3 : ∀ b u, b ≠ P → s1.heap.get? b = some u → h3.get? b = some u := fun b u hb e => hx b u hb (Heap.get?_push_of_some _ e)
    refine wpAny_builtinsFor (m := X.mg) (by rw [I1.ok.glob]; exact ((I1.mod.glob.keeps I1.bk).push oI).extBut hx TB.gP) e1 e2 (keep3 _ _ e4 (I1.bk _ _ e5)) e6 e7 e8 ?_
    refine ⟨s1.heap.objs.size, [s1.heap.objs.size, a], [s1.heap.objs.size], its.length, fun i v => its[i]? = some v, Sx, (fun _ => true), (fun i y => i < its.length ∧ y = .bool (pb i)), rfl, W, ?_, fun b hb => ?_, lim2.extBut hx hcP, fun z => ?_, fun href hhref => ?_, ?_⟩
    · refine (W X.A hr.hd).frame _ _ _ st0 fun b hb u e => hx b u (fun z => ?_) e
      rcases List.mem_cons.mp hb with z2 | z2
      · exact Nat.ne_of_lt hPlt (z.symm.trans z2)
      · -- the table is no list and no tuple: the walked thing stands elsewhere
        exact haP ps (by rw [← List.mem_singleton.mp z2, z]; exact hPs)
    · rcases List.mem_cons.mp hb with z | z
      · rw [z]
        exact h3s
      · rw [List.mem_singleton.mp z]
        exact Nat.lt_trans hal h3s
    · exact Nat.ne_of_lt hcl (List.mem_singleton.mp z)
    · have back : ∀ (s₂ : Shared), (∀ b ∈ List.range h3.objs.size, b ∉ [s1.heap.objs.size] → ∀ o, href.get? b = some o → s₂.heap.get? b = some o) → ∀ b o, b ≠ P → s1.heap.get? b = some o → s₂.heap.get? b = some o := fun s₂ hk b o hb e => by
        have hlt := Heap.lt_size e
        refine hk b (List.mem_range.mpr (Nat.lt_trans hlt h3s)) (fun z => Nat.ne_of_lt hlt (List.mem_singleton.mp z)) o (hhref b o (keep3 b o hb e))
      refine ⟨fun A' E' i v s₂ m₂ hA hPv hn hm hk => ?_, fun A' E' i v s₂ m₂ hA hPv hp hn hm hk => ?_⟩
      · simp only [List.forIn_nil]
        exact wpAny_pure ⟨rfl, keeps_id _⟩
      · exact wpAny_mono (hel _ A' E' i v s₂ m₂ hA rfl rfl hPv hn hm (back s₂ hk)) (fun y s3 r => ⟨⟨(List.getElem?_eq_some_iff.mp hPv).1, r.1⟩, r.2⟩) fun _ _ e => e
    · intro g h5 tk5 gs hgb hag hsz5 hk5 W5 hat
      simp only [all_passing, List.length_range] at W5
      refine hQ g _ ⟨_, _, _, _, _, W5.in4_1, hat, fun j y hy => ?_, fun s' hm => ?_⟩
      · obtain ⟨i, hij, _, rfl⟩ := hy
        obtain ⟨hj, ej⟩ := List.getElem?_eq_some_iff.mp hij
        rw [List.getElem_range] at ej
        rw [ej]
      · obtain ⟨more, em⟩ := hmore
        have nwr : ∀ b u, s1.heap.get? b = some u → b ∉ h3.objs.size :: [s1.heap.objs.size] := fun b u e hb => by
          have hl := Heap.lt_size e
          rcases List.mem_cons.mp hb with z | z
          · rw [z] at hl
            have h9 : (h3.objs.size : Nat) < s1.heap.objs.size := hl
            omega
          · rw [List.mem_singleton.mp z] at hl
            exact Nat.lt_irrefl _ hl
        have J := GxR.inv_tab (more := more) (h' := s'.heap) (g' := s'.gens) (d' := s'.drawn) (t' := s'.toks) I1 hP (fun b u hb e => hm.heap b u (nwr b u e) (hk5 b u (keep3 b u hb e)))
          (by rw [← em]; exact hm.heap P _ (nwr P _ hPs) (hk5 P _ hP3)) (AllBare.movedS (I1.bare.push hgb) hm)
        rw [GxR.sh_eta s1 s' hm.os] at J
        exact ⟨upd H1 P (.tbl (ps ++ more)), ⟨⟨ps ++ more, upd_same, by rw [← em]; exact ht3⟩, fun b hb => upd_ne hb⟩, J⟩
  refine ⟨lim2, ?_⟩
  cases hf : codeAmong gpos ps.toList with
  | none =>
    refine wpAny_genexprCodeX hcode (cd.code hP2 ht) (cd.tab hP2) hf fun c' h' tk hx hge hlt hco' _ htab' _ => ?_
    obtain ⟨o1, vs, f1, tf, fl, tg, inF, tx, tt, op, _, _, _, _, _, _, _, _, _, htr, _⟩ := hco'
    exact rest _ h' tk _ hx (Nat.le_trans hge (Nat.le_of_lt hlt)) htab'.2 ⟨_, rfl⟩ htr
  | some cv =>
    refine wpAny_genexprCode_hit hcode (cd.code hP2 ht) hf ?_
    exact rest cv (s1.heap.push oI) s1.toks ps (Heap.ExtBut.refl _ _) (Nat.le_refl _) hP2 ⟨#[], by simp⟩ ht

/-- any(..), all(..) of such a generator: what is asked is made in R -/
def tGen (P : Addr) (K : PySem.W.Frag) (te : TE) (AN : List Bool → Bool) (AS : List V → L2.St → Hp → List Bool → Prop) : TE := fun σ H Q => te σ H fun v H1 => TabG H1 P ∧ ∃ (a : Addr) (xs : List V) (bs : List Bool), v = .ref a ∧ (SqL K H1 a xs ∨ SqT K H1 a xs) ∧ AS xs σ H1 bs ∧ bs.length = xs.length ∧ ∀ H2, Tabbed P H1 H2 → Q (.bl (AN bs)) H2
/-- the element as it is read: from what stands in the frame and the heap, over the items xs, the answers bs -/
def EltR (X : Cx) (scope : Scope) (x : Str) (elt : Expr) (AS : List V → L2.St → Hp → List Bool → Prop) : Prop :=
  ∀ (pins : List (Addr × Obj)) (σ : L2.St) (H : Hp) (s : Shared) (xs : List V) (its : List Value) (bs : List Bool) (P : Addr), Inv X pins σ H s → Vals xs its → AS xs σ H bs → (∃ ps, H P = some (.tbl ps)) → bs.length = xs.length → EltG X scope x elt its (fun i => bs.getD i false) s.heap P
theorem range_all (bs : List Bool) : (List.range bs.length).all (fun i => bs.getD i false) = bs.all id := by
  rw [Bool.eq_iff_iff, List.all_eq_true, List.all_eq_true]
  constructor
  · intro h b hb
    obtain ⟨j, hj, e⟩ := List.getElem_of_mem hb
    have q := h j (List.mem_range.mpr hj)
    rw [List.getD_eq_getElem?_getD, List.getElem?_eq_getElem hj, e] at q
    exact q
  · intro h j hj
    have hj' := List.mem_range.mp hj
    rw [List.getD_eq_getElem?_getD, List.getElem?_eq_getElem hj']
    exact h _ (List.getElem_mem hj')
theorem range_any (bs : List Bool) : (List.range bs.length).any (fun i => bs.getD i false) = bs.any id := by
  rw [Bool.eq_iff_iff, List.any_eq_true, List.any_eq_true]
  constructor
  · intro ⟨j, hj, h⟩
    have hj' := List.mem_range.mp hj
    rw [List.getD_eq_getElem?_getD, List.getElem?_eq_getElem hj'] at h
    exact ⟨bs[j], List.getElem_mem hj', h⟩
  · intro ⟨b, hb, h⟩
    obtain ⟨j, hj, e⟩ := List.getElem_of_mem hb
    refine ⟨j, List.mem_range.mpr hj, ?_⟩
    rw [List.getD_eq_getElem?_getD, List.getElem?_eq_getElem hj, e]
    exact h
theorem gen_read {c P : Addr} {elt iter : Expr} {x : Str} {px gpos : Pos} {scope : Scope} {te : TE} {k : Nat} {AN : List Bool → Bool} {AS : List V → L2.St → Hp → List Bool → Prop} {Q : VK} {Q' : Value → Shared → Prop}
    (hr : Room k X.A) (TB : TabB X.base X.mg c P) (hcode : X.env.code = .ref c) (S : GnS X.env.scope scope x) (hi : PE X iter te) (hel : EltR X scope x elt AS)
    (hs : ∀ v, genFold iter X.env v = pure v) (I : Inv X pins σ H s) (h : tGen P X.K te AN AS σ H Q)
    (hQ : ∀ (bs : List Bool) (H1 : Hp) g s5, (∀ H2, Tabbed P H1 H2 → Q (.bl (AN bs)) H2) → GReady X pins σ H1 P bs.length (fun i => bs.getD i false) g s5 → Q' (.ref g) s5) :
    wpAny (model X.prog X.w) X.A (eval (.GeneratorExp elt [⟨.Name x px, iter, [], 0⟩] scope gpos) X.env) Q' X.xe s := by
  refine gen_made hr TB hcode S hi hs I h fun v xv H1 s1 I1 rv q => ?_
  obtain ⟨tg, a, xs, bs, rfl, hq, ha, hl, q⟩ := q
  obtain rfl : xv = Value.ref a := rv
  have tg' := tg
  obtain ⟨ps, hP, _⟩ := tg'
  refine ⟨tg, ?_⟩
  rcases hq with hq | hq
  · obtain ⟨its, r, pl, _⟩ := I1.list hq
    refine ⟨its, _, gsrc_lst pl.isList, hel pins σ H1 s1 xs its bs P I1 r ha ⟨ps, hP⟩ hl, fun g s5 gr => hQ bs H1 g s5 q ?_⟩
    rw [hl, r.length]
    exact gr
  · obtain ⟨its, r, pl, _⟩ := I1.tuple hq
    refine ⟨its, _, gsrc_tup (show s1.heap.IsTuple a its.toArray from pl), hel pins σ H1 s1 xs its bs P I1 r ha ⟨ps, hP⟩ hl, fun g s5 gr => hQ bs H1 g s5 q ?_⟩
    rw [hl, r.length]
    exact gr
theorem gtruth {A : Around} {F : Nat → Value → Prop} {bs : List Bool} (h : ∀ j y, F j y → y = .bool (bs.getD j false)) : TruthOf X.prog X.w A F (fun i => bs.getD i false) := fun j y sj Qj Ej hy hq => by
  rw [h j y hy]
  exact wpAny_truthy_bool hq
theorem pe_allG {c P : Addr} {elt iter : Expr} {x : Str} {px p pos gpos : Pos} {scope : Scope} {te : TE} {k : Nat} {AS : List V → L2.St → Hp → List Bool → Prop}
    (hr : Room k X.A) (hg : Gl X "all") (hm : X.mg "all" = none) (hb : bootBuiltins "all" = some (.builtin "all")) (TB : TabB X.base X.mg c P) (hcode : X.env.code = .ref c) (S : GnS X.env.scope scope x) (hi : PE X iter te) (hel : EltR X scope x elt AS)
    (hs : ∀ v, genFold iter X.env v = pure v)
    (he : starEach [.GeneratorExp elt [⟨.Name x px, iter, [], 0⟩] scope gpos] X.env = (false, eval (.GeneratorExp elt [⟨.Name x px, iter, [], 0⟩] scope gpos) X.env) :: starEach [] X.env := by rfl) :
    PE X (.Call (.Name "all" p) [.GeneratorExp elt [⟨.Name x px, iter, [], 0⟩] scope gpos] [] pos) (tGen P X.K te (fun bs => bs.all id) AS) := by
  refine ⟨fun pins s σ H Q I h => ?_⟩
  refine wpAny_Call_Name_kw (ld_blt I hg hm hb ?_)
  refine PyProof.Rows.callWith_builtin1 ?_ he (by rfl)
  rw [he]
  show wpAny _ _ (spliced ((false, eval (.GeneratorExp elt [⟨.Name x px, iter, [], 0⟩] scope gpos) X.env) :: backTo pos (starEach [] X.env))) _ _ s
  refine Calls.spliced_cons (gen_read hr TB hcode S hi hel hs I h fun bs H1 g s5 hR hG => ?_)
  obtain ⟨fp, wr, G, F, Sx, W, hst, htr, hI⟩ := hG
  refine Calls.spliced_nil ?_
  refine call_all_walkS (W.self 0 _ _ _ hst ⟨g, fp, wr, G, _, F, Sx, _, rfl, W, hst, gtruth htr, fun s' hmv => ?_⟩)
  obtain ⟨H2, hT, J⟩ := hI s' hmv
  refine ⟨.bl _, H2, J, rfl, ?_⟩
  rw [range_all bs]
  exact hR H2 hT
theorem pe_anyG {c P : Addr} {elt iter : Expr} {x : Str} {px p pos gpos : Pos} {scope : Scope} {te : TE} {k : Nat} {AS : List V → L2.St → Hp → List Bool → Prop}
    (hr : Room k X.A) (hg : Gl X "any") (hm : X.mg "any" = none) (hb : bootBuiltins "any" = some (.builtin "any")) (TB : TabB X.base X.mg c P) (hcode : X.env.code = .ref c) (S : GnS X.env.scope scope x) (hi : PE X iter te) (hel : EltR X scope x elt AS)
    (hs : ∀ v, genFold iter X.env v = pure v)
    (he : starEach [.GeneratorExp elt [⟨.Name x px, iter, [], 0⟩] scope gpos] X.env = (false, eval (.GeneratorExp elt [⟨.Name x px, iter, [], 0⟩] scope gpos) X.env) :: starEach [] X.env := by rfl) :
    PE X (.Call (.Name "any" p) [.GeneratorExp elt [⟨.Name x px, iter, [], 0⟩] scope gpos] [] pos) (tGen P X.K te (fun bs => bs.any id) AS) := by
  refine ⟨fun pins s σ H Q I h => ?_⟩
  refine wpAny_Call_Name_kw (ld_blt I hg hm hb ?_)
  refine PyProof.Rows.callWith_builtin1 ?_ he (by rfl)
  rw [he]
  show wpAny _ _ (spliced ((false, eval (.GeneratorExp elt [⟨.Name x px, iter, [], 0⟩] scope gpos) X.env) :: backTo pos (starEach [] X.env))) _ _ s
  refine Calls.spliced_cons (gen_read hr TB hcode S hi hel hs I h fun bs H1 g s5 hR hG => ?_)
  obtain ⟨fp, wr, G, F, Sx, W, hst, htr, hI⟩ := hG
  refine Calls.spliced_nil ?_
  refine call_any_walkS (W.self 0 _ _ _ hst ⟨g, fp, wr, G, _, F, Sx, _, rfl, W, hst, gtruth htr, fun s' hmv => ?_⟩)
  obtain ⟨H2, hT, J⟩ := hI s' hmv
  refine ⟨.bl _, H2, J, rfl, ?_⟩
  rw [range_any bs]
  exact hR H2 hT
/-- the element x in y, y a captured name (slot j) -/
def AsIn (K : PySem.W.Frag) (j : Nat) : List V → L2.St → Hp → List Bool → Prop := fun xs σ H bs => ∃ (b : Addr) (ys : List V), σ[j]? = some (some (.ref b)) ∧ (SqL K H b ys ∨ SqT K H b ys) ∧ xs.all flatV = true ∧ ys.all flatV = true ∧ bs = xs.map fun x => inV x ys
theorem elt_in {scope : Scope} {x y : Str} {j : Nat} {p1 p2 p3 : Pos} (S : GnS X.env.scope scope x) (hN : X.N[j]? = some y) (hy : scope.names.lookup y = some .free) (hc : X.env.scope.names.lookup y = some .cell)
    (hd : (x == ("__debug__" : Str)) = false := by decide) (hd2 : (y == ("__debug__" : Str)) = false := by decide) (hcd : (y == ("__classdict__" : Str)) = false := by decide) : EltR X scope x (.Compare (.Name x p1) [.In] [.Name y p2] p3) (AsIn X.K j) := by
  intro pins σ H s xs its bs P I rv hA hP hl cenv A' E' i v s₂ m₂ hAh hsc hcl hi hn hm hk
  obtain ⟨b, ys, hj, hq, fx, fy, rfl⟩ := hA
  obtain ⟨ps, hP⟩ := hP
  have hPs : s.heap.get? P = some { cls := .none, data := .fields ps } := I.hok P _ hP
  obtain ⟨mm, _, hloc⟩ := I.loc
  obtain ⟨u, ru, lk⟩ := hloc j y (.ref b) hN hj (.inr (.inl hc))
  obtain rfl : u = Value.ref b := ru
  obtain ⟨c, hcc, hcell⟩ : ∃ c, X.env.cells.lookup y = some c ∧ s.heap.IsCell c (some (.ref b)) := by
    rcases lk with ⟨z, _⟩ | ⟨_, z⟩
    · have z2 : X.env.scope.names.lookup y = some .local := z
      rw [hc] at z2
      cases z2
    · exact z
  have hlook : cenv.cells.lookup y = some c := by rw [hcl]; exact clo_look hy hcc
  have hcell2 : s₂.heap.IsCell c (some (.ref b)) := by
    obtain ⟨o, ho, hd⟩ := hcell
    refine ⟨o, hk c o (fun z => ?_) ho, hd⟩
    rw [z, hPs] at ho
    cases ho
    cases hd
  have hkind : cenv.scope.kind = .function := by rw [hsc]; exact S.kind
  refine wpAny_Compare1 ?_
  refine wpAny_Name (wpAny_loadName_local hkind (show cenv.scope.names.lookup x = some .local by rw [hsc]; exact S.loc) hn hm ?_) hd
  refine wpAny_Name (wpAny_loadName_free hkind (show cenv.scope.names.lookup y = some .free by rw [hsc]; exact hy) hlook hcell2 ?_ hcd) hd2
  -- the item
  obtain ⟨z, hz, rz⟩ : ∃ z, xs[i]? = some z ∧ RelV z v := by
    have hlt : i < its.length := (List.getElem?_eq_some_iff.mp hi).1
    have hlt2 : i < xs.length := by rw [rv.length]; exact hlt
    obtain ⟨w, e1, e2⟩ := rv.get (List.getElem?_eq_getElem hlt2)
    rw [hi] at e1
    cases e1
    exact ⟨_, List.getElem?_eq_getElem hlt2, e2⟩
  have fz : flatV z = true := List.all_eq_true.mp fx z (List.mem_of_getElem? hz)
  have eb : (xs.map fun x => inV x ys).getD i false = inV z ys := by
    rw [List.getD_eq_getElem?_getD, List.getElem?_map, hz] <;> rfl
  rcases hq with hq | hq
  · obtain ⟨js, r, pl, _⟩ := I.list hq
    have pl2 : s₂.heap.IsList b js.toArray := by
      obtain ⟨o, ho, ha, hb⟩ := pl.isList
      exact ⟨o, hk b o (fun z => by rw [z, hPs] at ho; cases ho; cases ha) ho, ha, hb⟩
    refine SeqAt.in_listAt (eqU z) pl2 (fun w hw => mem_eqAt rz fz r fy w (by simpa using hw)) ⟨?_, keeps_id _⟩
    rw [show js.toArray.any (eqU z) = js.any (eqU z) by simp, any_eqU r fy]
    exact congrArg Value.bool eb.symm
  · obtain ⟨js, r, pl, _⟩ := I.tuple hq
    have pl2 : s₂.heap.IsTuple b js.toArray := by
      obtain ⟨o, ho, ha, hb⟩ := (show s.heap.IsTuple b js.toArray from pl)
      exact ⟨o, hk b o (fun z => by rw [z, hPs] at ho; cases ho; cases ha) ho, ha, hb⟩
    refine SeqAt.in_tupleAt (eqU z) pl2 (fun w hw => mem_eqAt rz fz r fy w (by simpa using hw)) ⟨?_, keeps_id _⟩
    rw [show js.toArray.any (eqU z) = js.any (eqU z) by simp, any_eqU r fy]
    exact congrArg Value.bool eb.symm
end
end CH
end

section
set_option Elab.async false
set_option linter.all false
set_option maxRecDepth 100000
set_option maxHeartbeats 4000000
namespace CH
open PySem PySem.Spec PyProof.Rows L2
open GxR (TabB TabG Tabbed)
/-! ### what stays: all but the tables, which stay tables -/
structure Kx (H H' : Hp) : Prop where
  o : ∀ b u, H b = some u → (∀ ps, u ≠ .tbl ps) → H' b = some u
  g : ∀ P, TabG H P → TabG H' P
  f : ∀ b, H' b = none → H b = none
theorem Kx.refl (H : Hp) : Kx H H := ⟨fun _ _ h _ => h, fun _ h => h, fun _ h => h⟩
theorem Kx.trans {H H1 H2 : Hp} (a : Kx H H1) (b : Kx H1 H2) : Kx H H2 := ⟨fun c u h n => b.o c u (a.o c u h n) n, fun P h => b.g P (a.g P h), fun c h => a.f c (b.f c h)⟩
theorem Kx.rd {H H' : Hp} {a : Addr} {u : HO} (k : Kx H H') (n : ∀ ps, u ≠ .tbl ps) (h : Rd H a u) : Rd H' a u := by
  rcases h with h | ⟨o, h⟩
  · exact .inl (k.o _ _ h n)
  · exact .inr ⟨o, k.o _ _ h fun ps z => nomatch z⟩
theorem Kx.l {K : PySem.W.Frag} {H H' : Hp} {a : Addr} {xs : List V} (k : Kx H H') (h : SqL K H a xs) : SqL K H' a xs := by
  rcases h with h | h
  · exact .inl (k.rd (fun ps z => nomatch z) h)
  · exact .inr h
theorem Kx.t {K : PySem.W.Frag} {H H' : Hp} {a : Addr} {xs : List V} (k : Kx H H') (h : SqT K H a xs) : SqT K H' a xs := by
  rcases h with h | h
  · exact .inl (k.rd (fun ps z => nomatch z) h)
  · exact .inr h
theorem Kx.lst {H H' : Hp} {a : Addr} {xs : List V} (k : Kx H H') (h : H a = some (.lst xs)) : H' a = some (.lst xs) := k.o _ _ h fun ps z => nomatch z
theorem Kx.tup {H H' : Hp} {a : Addr} {xs : List V} (k : Kx H H') (h : H a = some (.tup xs)) : H' a = some (.tup xs) := k.o _ _ h fun ps z => nomatch z
theorem Kx.dt {H H' : Hp} {a : Addr} {kvs : List (List Key × V)} (k : Kx H H') (h : H a = some (.dT kvs)) : H' a = some (.dT kvs) := k.o _ _ h fun ps z => nomatch z
/-- a new object -/
theorem Kx.new {H : Hp} {p : Addr} {u : HO} (h : H p = none) : Kx H (upd H p u) := by
  refine ⟨fun b v e _ => ?_, fun P t => ?_, fun b e => ?_⟩
  · rw [upd_ne (ne_of_none e h)]
    exact e
  · obtain ⟨ps, e, t⟩ := t
    exact ⟨ps, by rw [upd_ne (ne_of_none e h)]; exact e, t⟩
  · by_cases hb : b = p
    · rw [hb, upd_same] at e
      cases e
    · rw [upd_ne hb] at e
      exact e
/-- an object that was not there ahead is changed -/
theorem Kx.mut {H H' : Hp} {p : Addr} {u : HO} (k : Kx H H') (h : H p = none) : Kx H (upd H' p u) := by
  refine ⟨fun b v e n => ?_, fun P t => ?_, fun b e => ?_⟩
  · rw [upd_ne (ne_of_none e h)]
    exact k.o b v e n
  · obtain ⟨ps, e, t1⟩ := t
    obtain ⟨qs, e2, t2⟩ := k.g P ⟨ps, e, t1⟩
    exact ⟨qs, by rw [upd_ne (ne_of_none e h)]; exact e2, t2⟩
  · by_cases hb : b = p
    · rw [hb, upd_same] at e
      cases e
    · rw [upd_ne hb] at e
      exact k.f b e
/-- the table at P has grown -/
theorem Kx.tab {H H' : Hp} {P : Addr} (t : TabG H P) (h : Tabbed P H H') : Kx H H' := by
  obtain ⟨ps, e, tr⟩ := t
  refine ⟨fun b u hb n => ?_, fun Q tq => ?_, fun b hb => ?_⟩
  · have nb : b ≠ P := fun z => n ps (Option.some.inj (hb.symm.trans (by rw [z]; exact e)))
    rw [h.2 b nb]
    exact hb
  · by_cases hq : Q = P
    · rw [hq]
      exact h.1
    · obtain ⟨qs, e2, t2⟩ := tq
      exact ⟨qs, by rw [h.2 Q hq]; exact e2, t2⟩
  · by_cases hq : b = P
    · obtain ⟨⟨qs, e2, _⟩, _⟩ := h
      rw [hq, e2] at hb
      cases hb
    · rw [h.2 b hq] at hb
      exact hb
theorem sq_of {K : PySem.W.Frag} {H : Hp} {a : Addr} {xs : List V} (h : H a = some (.lst xs)) : SqL K H a xs := .inl (.inl h)
theorem st_of {K : PySem.W.Frag} {H : Hp} {a : Addr} {xs : List V} (h : H a = some (.tup xs)) : SqT K H a xs := .inl (.inl h)
/-! ### a value's type -/
theorem tyx_tup {K : PySem.W.Frag} {H : Hp} {a : Addr} {xs : List V} (h : SqT K H a xs) : TyX K H (.ref a) (.type "tuple") := by
  rcases h with (h | ⟨o, h⟩) | ⟨o, _, _, h, c, _⟩
  · exact .base (.tup h)
  · exact .fTuple h
  · exact .kTuple h c
theorem tyx_lst {K : PySem.W.Frag} {H : Hp} {a : Addr} {xs : List V} (h : SqL K H a xs) : TyX K H (.ref a) (.type "list") := by
  rcases h with (h | ⟨o, h⟩) | ⟨o, _, _, h, c, _⟩
  · exact .base (.lst h)
  · exact .base (.frz h)
  · exact .kList h c
/-! ### a def of the head, called by its name -/
abbrev FnT (K : PySem.W.Frag) (x : Str) (st : Stmt) (f : Addr) (fd : FuncData) : Prop := FunD K x x (defArgs st) (defBody st) (defScope st) [] [] f fd
section
variable {P : Program} {w : World} {K : PySem.W.Frag} {mg : Str → Option Value} {base : Heap}
/-- what the head says of a def: its object, its place, its code object -/
structure DefT (K : PySem.W.Frag) (mg : Str → Option Value) (x : Str) (st : Stmt) (c : Addr) : Prop where
  ex : ∃ (f : Addr) (fd : FuncData), FnT K x st f fd ∧ mg x = some (.ref f) ∧ ∀ oc od osl fd', K.lookup f = some ⟨oc, od, .func fd', osl⟩ → fd'.code = .ref c
theorem cal_of {x : Str} {st : Stmt} {c : Addr} {N ps : List Str} {k : Nat} {sp : Sp} (D : DefT K mg x st c) (S : FnScope N ps (defScope st))
    (hb : ∀ (kV doc pm : Value) (an : Option Addr) (cdv ct : Value) (us : List Value), us.length = ps.length → bindArgs (PySem.W.fnOf x x (defArgs st) (defBody st) (defScope st) .none kV doc pm an cdv ct) ⟨us, []⟩ = pure (ps.zip us))
    (len : ∀ vs H Q E, sp vs H Q E → vs.length = ps.length)
    (hbody : ∀ (f : Addr) (A : Around) (outer : List Env) (s : Shared) (H : Hp) (vs : List V) (Q : VK) (E : XK), Room k (A.deeper (envOfC x (defScope st) s.heap.objs.size f (.ref c))) → sp vs H Q E →
      ∃ t, PSs (cxOf CX0 P w K mg base N x (defScope st) f (.ref c) A outer s H E).nox (defBody st) t ∧ t { nx := fun _ H' => Q .non H', rt := Q } (start N vs) H) : C8.Cal P w K mg base (k + 1) x sp [] := by
  obtain ⟨f, fd, F, hm, hc⟩ := D.ex
  refine ⟨f, fd, ps, [], ?_, hm, F.kp, FunD.bindsN F hb, .nil⟩
  obtain ⟨oc, od, dV, kV, doc, pm, an, cdv, ct, osl, rfl, lk, hcd, _, _⟩ := F.ex
  obtain rfl : cdv = .ref c := hc _ _ _ _ lk
  refine fn_of lk hcd S len fun A outer s H vs Q E hr hsp => ?_
  obtain ⟨t, h, q⟩ := hbody f A outer s H vs Q E hr hsp
  exact ⟨t, h.nox, q⟩
end
/-! ### small steps -/
theorem iteB {b : Bool} {A B : Prop} (h1 : b = true → A) (h2 : b = false → B) : if b = true then A else B := by
  cases b with
  | true => exact iteT (h1 rfl)
  | false => exact iteF (h2 rfl)
theorem small80 {n : Nat} (h : n ≤ 100000) : n ≤ sizeLine := Nat.le_trans h (by decide)
theorem lt80 {n : Nat} (h : n < 100000) : n < sizeLine := Nat.lt_of_lt_of_le h (by decide)
end CH
end

section
set_option Elab.async false
set_option linter.all false
set_option maxRecDepth 100000
set_option maxHeartbeats 4000000
/-! defs that may raise -/
namespace CH
open PySem PySem.Spec PyProof.Rows L2
section
variable {P : Program} {w : World} {K : PySem.W.Frag} {mg : Str → Option Value} {base : Heap}
/-- a def that may be called by its name, and may raise -/
structure CalX (P : Program) (w : World) (K : PySem.W.Frag) (mg : Str → Option Value) (base : Heap) (k : Nat) (x : Str) (sp : Sp) : Prop where
  ex : ∃ (f : Addr) (fd : FuncData) (ps : List Str), FnOk P w K mg base (L2.CX P w) k f fd ps sp ∧ mg x = some (.ref f) ∧ PySem.W.keepIn K (.ref f) = true ∧ Binds K fd ps []
theorem calX_of {x : Str} {st : Stmt} {c : Addr} {N ps : List Str} {k : Nat} {sp : Sp} (D : DefT K mg x st c) (S : FnScope N ps (defScope st))
    (hb : ∀ (kV doc pm : Value) (an : Option Addr) (cdv ct : Value) (us : List Value), us.length = ps.length → bindArgs (PySem.W.fnOf x x (defArgs st) (defBody st) (defScope st) .none kV doc pm an cdv ct) ⟨us, []⟩ = pure (ps.zip us))
    (len : ∀ vs H Q E, sp vs H Q E → vs.length = ps.length)
    (hbody : ∀ (f : Addr) (A : Around) (outer : List Env) (s : Shared) (H : Hp) (vs : List V) (Q : VK) (E : XK), Room k (A.deeper (envOfC x (defScope st) s.heap.objs.size f (.ref c))) → sp vs H Q E →
      ∃ t, PSs (cxOf (L2.CX P w) P w K mg base N x (defScope st) f (.ref c) A outer s H E) (defBody st) t ∧ t { nx := fun _ H' => Q .non H', rt := Q } (start N vs) H) : CalX P w K mg base (k + 1) x sp := by
  obtain ⟨f, fd, F, hm, hc⟩ := D.ex
  refine ⟨f, fd, ps, ?_, hm, F.kp, FunD.bindsN F hb⟩
  obtain ⟨oc, od, dV, kV, doc, pm, an, cdv, ct, osl, rfl, lk, hcd, _, _⟩ := F.ex
  obtain rfl : cdv = .ref c := hc _ _ _ _ lk
  exact fn_of lk hcd S len fun A outer s H vs Q E hr hsp => hbody f A outer s H vs Q E hr hsp
theorem cx_e0 {outer : List Env} {H : Hp} {s s' : Shared} {e : Value} (h : L2.CX P w outer H s C8.E0 e s') : False := by
  obtain ⟨_, _, _, _, _, _, _, _, _, _, _, _, z⟩ := h
  exact z
/-- .. where it does not raise -/
theorem CalX.cal {k : Nat} {x : Str} {sp sp' : Sp} (c : CalX P w K mg base k x sp) (h : ∀ vs H Q E, sp' vs H Q E → sp vs H Q C8.E0) : C8.Cal P w K mg base k x sp' [] := by
  obtain ⟨f, fd, ps, F, hm, kp, b⟩ := c.ex
  refine ⟨f, fd, ps, [], ⟨fun vs H Q E q => F.len vs H Q _ (h _ _ _ _ q), fun A outer s H args us vs Q E hr he hb hv hs => ?_⟩, hm, kp, b, .nil⟩
  refine codeAny_mono (F.run A outer s H args us vs Q C8.E0 hr he hb hv (h _ _ _ _ hs)) fun r s' q => ?_
  cases r with
  | ok f => cases f <;> exact q
  | error e => exact (cx_e0 q).elim
end
section
variable {X : Cx} {k j : Nat} {x : Str} {sp : Sp} {p pos : Pos} {e : Expr} {es : List Expr} {t : TA} {E : XK} {W : WX}
theorem pe_c0 {dvs : List V} (c : C8.Cal X.prog X.w X.K X.mg X.base k x sp dvs) (hr : Room j X.A) (hk : k ≤ j) (hg : Gl X x) (hdb : (x == ("__debug__" : Str)) = false := by decide) : PE X (.Call (.Name x p) [] [] pos) (tCall sp dvs C8.E0 tNil) := by
  obtain ⟨f, fd, ps, ds, F, hm, kp, b, d⟩ := c.ex
  exact pe_call0 F (hr.mono hk) hg hm kp b d C8.pass0 hdb
/-- a call; what it raises leaves the def -/
theorem pe_cX (c : CalX X.prog X.w X.K X.mg X.base k x sp) (hr : Room j X.A) (hk : k ≤ j) (hg : Gl X x) (tk : Takes X (fun cls d _ H => E cls d H)) (ha : PA X (e :: es) t)
    (hdb : (x == ("__debug__" : Str)) = false := by decide) (he : starEach (e :: es) X.env = (false, eval e X.env) :: starEach es X.env := by rfl) (hpl : (backTo pos (starEach es X.env)).any (·.1) = false := by rfl) :
    PE X (.Call (.Name x p) (e :: es) [] pos) (tCall sp [] E t) := by
  obtain ⟨f, fd, ps, F, hm, kp, b⟩ := c.ex
  exact pe_call F (hr.mono hk) hg hm kp b .nil (passes_call tk fun _ _ _ _ h => h) ha hdb he hpl
/-- .. what it raises goes to the try around -/
theorem pe_cS (c : CalX X.prog X.w X.K X.mg X.base k x sp) (hr : Room j X.A) (hk : k ≤ j) (hg : Gl X x) (tk : Takes X W) (ha : PA X (e :: es) t)
    (hdb : (x == ("__debug__" : Str)) = false := by decide) (he : starEach (e :: es) X.env = (false, eval e X.env) :: starEach es X.env := by rfl) (hpl : (backTo pos (starEach es X.env)).any (·.1) = false := by rfl) :
    PE X (.Call (.Name x p) (e :: es) [] pos) (tCallS sp (WE W) t) := by
  obtain ⟨f, fd, ps, F, hm, kp, b⟩ := c.ex
  exact pe_callS F (hr.mono hk) hg hm kp b (fun σ => passAt tk σ) ha hdb he hpl
/-- the suite of a clause, by the error's own class -/
theorem pss_exc {K : PySem.W.Frag} {ss : List Stmt} {cls : Value} {d : Option Addr} {t : Addr → TS} (h : ∀ D0, cls = .ref D0 → d = none → ExcC K D0 → PSs X ss (t D0)) : PSs X ss (fun D σ H => ∃ D0, cls = .ref D0 ∧ d = none ∧ ExcC K D0 ∧ t D0 D σ H) :=
  ⟨fun pins s σ H D I q => by
    obtain ⟨D0, e1, e2, C, q⟩ := q
    exact (h D0 e1 e2 C).run pins s σ H D I q⟩
end
theorem call_isE1 {K : PySem.W.Frag} {X : Cx} {a D0 : Addr} {oe : Obj} {pn : List (Addr × Obj)} {cls : Value} {d : Option Addr} (C : ExcC K D0) (hz : Zc cls d oe) (hf : ∃ vs, oe.data = .fields vs) (ec : cls = .ref D0) (ed : d = none) (hK : X.K = K := by rfl) : CallR (X.suite a ((a, oe) :: pn)) (.builtin "isinstance") (rIsE K D0 a) := by
  subst ec ed
  subst hK
  exact call_isE C hz hf
/-- an own class of errors -/
structure Exn (K : PySem.W.Frag) (mg : Str → Option Value) (x : Str) (C : Addr) : Prop where
  g : mg x = some (.ref C)
  q : PySem.W.excIn K C [.type "ValueError", .type "Exception", .type "BaseException", .type "object"] "ValueError.__new__" = true
  k : PySem.W.keepIn K (.ref C) = true
  b : PySem.W.subIn K (.ref C) (.type "BaseException") = some true
  t : PySem.W.typeIn K (.ref C) = some (.type "type")
  c : ExcC K C
theorem Exn.cv {K : PySem.W.Frag} {mg : Str → Option Value} {x : Str} {C : Addr} (e : Exn K mg x C) : ∃ u, mg x = some u ∧ RelV (.ref C) u := ⟨_, e.g, rfl⟩
/-- no test stands -/
theorem yesT {σ : L2.St} {H : Hp} {A B : Hp → Prop} (h : A H) : tYes σ H fun b H3 => if b = true then A H3 else B H3 := by
  show if true = true then A H else B H
  rw [if_pos rfl]
  exact h
end CH
end

section
set_option Elab.async false
set_option linter.all false
set_option maxRecDepth 100000
set_option maxHeartbeats 4000000
/-! how many unlike ones a list of whole numbers has -/
namespace CH
open PySem PySem.Spec PyProof.Rows L2
def rLenK (K : PySem.W.Frag) : List V → Hp → VK → Prop := fun xs H Q => ∃ p ys, xs = [V.ref p] ∧ (SqL K H p ys ∨ SqT K H p ys) ∧ Q (.int ys.length) H
/-- the first i of ns, each once -/
def met (ns : List Int) (i : Nat) : List Int := firstMet (fun j => ns.getD j 0) i
theorem met_succ (ns : List Int) (i : Nat) : met ns (i + 1) = if (met ns i).any (· == ns.getD i 0) then met ns i else met ns i ++ [ns.getD i 0] := firstMet_succ _ _
theorem met_spec {ns : List Int} : ∀ i, i ≤ ns.length → (∀ x, x ∈ met ns i ↔ x ∈ ns.take i) ∧ (met ns i).length ≤ i ∧ ((met ns i).length = i ↔ (ns.take i).Nodup)
  | 0, _ => ⟨fun x => by rw [List.take_zero]; exact Iff.rfl, Nat.le_refl 0, ⟨fun _ => by rw [List.take_zero]; exact List.Pairwise.nil, fun _ => rfl⟩⟩
  | i + 1, hi => by
    have hlt : i < ns.length := hi
    obtain ⟨m1, m2, m3⟩ := met_spec i (Nat.le_of_lt hlt)
    have e1 : ns.getD i 0 = ns[i] := by
      rw [List.getD_eq_getElem?_getD, List.getElem?_eq_getElem hlt] <;> rfl
    have e2 : ns.take (i + 1) = ns.take i ++ [ns[i]] := by
      rw [List.take_add_one, List.getElem?_eq_getElem hlt] <;> rfl
    rw [met_succ, e1, e2]
    by_cases h : ns[i] ∈ ns.take i
    · have a : ((met ns i).any (· == ns[i])) = true := List.any_eq_true.mpr ⟨ns[i], (m1 _).mpr h, by simp⟩
      rw [if_pos a]
      refine ⟨fun x => ?_, by omega, ⟨fun z => ?_, fun z => ?_⟩⟩
      · rw [m1 x, List.mem_append, List.mem_singleton]
        exact ⟨.inl, fun z => z.elim id fun e => e ▸ h⟩
      · omega
      · obtain ⟨_, _, z⟩ := List.pairwise_append.mp z
        exact absurd rfl (z _ h _ (by simp))
    · have a : ¬ ((met ns i).any (· == ns[i])) = true := fun z => by
        obtain ⟨y, hy, ey⟩ := List.any_eq_true.mp z
        rw [eq_of_beq ey] at hy
        exact h ((m1 _).mp hy)
      rw [if_neg a]
      refine ⟨fun x => ?_, by rw [List.length_append]; show _ + 1 ≤ _; omega, ?_⟩
      · rw [List.mem_append, List.mem_append, m1 x]
      · rw [List.length_append]
        show (met ns i).length + 1 = i + 1 ↔ _
        constructor
        · intro z
          refine List.pairwise_append.mpr ⟨m3.mp (by omega), List.pairwise_singleton _ _, fun x hx y hy e => ?_⟩
          rw [List.mem_singleton.mp hy] at e
          exact h (e ▸ hx)
        · intro z
          have := m3.mpr (List.pairwise_append.mp z).1
          omega
/-- how many unlike ones -/
def dis (ns : List Int) : Nat := (met ns ns.length).length
theorem dis_le (ns : List Int) : dis ns ≤ ns.length := (met_spec (ns := ns) ns.length (Nat.le_refl _)).2.1
theorem dis_eq (ns : List Int) : dis ns = ns.length ↔ ns.Nodup := by
  have h := (met_spec (ns := ns) ns.length (Nat.le_refl _)).2.2
  rw [List.take_length] at h
  exact h
def tLenSetG (K : PySem.W.Frag) (ta : TE) : TE := fun σ H Q => ta σ H fun x H1 => ∃ (l : Addr) (ns : List Int), x = .ref l ∧ SqL K H1 l (ns.map V.int) ∧ ns.length ≤ 4000 ∧ Q (.int (dis ns : Int)) H1
theorem pe_lenSetG {X : Cx} {a : Expr} {ta : TE} {p p2 q pos : Pos} (hg : Gl X "len") (hm : X.mg "len" = none) (hg2 : Gl X "set") (hm2 : X.mg "set" = none) (ha : PE X a ta) (hc : X.calm = true := by rfl)
    (na : starEach [a] X.env = (false, eval a X.env) :: starEach [] X.env := by rfl) : PE X (.Call (.Name "len" p) [.Call (.Name "set" p2) [a] [] q] [] pos) (tLenSetG X.K ta) := by
  refine ⟨fun pins s σ H Q I h => ?_⟩
  refine Call_ (ld_blt I hg hm boot_len ?_)
  refine PyProof.Rows.callWith_builtin1 (PyProof.Rows.args_cons ?_ rfl) rfl rfl
  refine Call_ (ld_blt I hg2 hm2 boot_set ?_)
  refine PyProof.Rows.callWith_type1 (PyProof.Rows.args_cons (thn (ha.run pins s σ H _ I h) fun v s1 ⟨x, H1, I1, r1, q1⟩ => PyProof.Rows.args_nil ?_) na) na rfl
  obtain ⟨l, ns, rfl, hq, hl, q1⟩ := q1
  cases r1
  obtain ⟨its, r, pl, hz⟩ := I1.list hq
  have hlen : its.toArray.size = ns.length := by rw [List.size_toArray, ← r.length, List.length_map]
  refine call_set_list (I1.ok.hd hc) pl.isList (by simpa using RZ.intsAre_vals r) (by rw [hlen]; unfold scanBound; omega) fun h' tk hS hk => ?_
  refine PyProof.Rows.args_nil ?_
  rw [hlen] at hS
  obtain ⟨m1, m2, m3⟩ := met_spec (ns := ns) ns.length (Nat.le_refl _)
  rw [List.take_length] at m3
  obtain ⟨o, es, ep, t, ho, hex, hd, _, _, _, hf, hn⟩ := hS
  have hn' : _ = (met ns ns.length).length := hn
  have I2 : Inv X pins σ H1 { s1 with heap := h', toks := tk } := I1.kept fun b o e => hk b o (Heap.lt_size e) e
  exact call_len_set ho hex hd hf (by rw [hn'] <;> omega) ⟨.int (met ns ns.length).length, H1, I2.tok _, ⟨_, by rw [hn']⟩, q1⟩
/-- [g(x) for x in ns], truths -/
theorem lc_bools {K : PySem.W.Frag} {a : Addr} {ns : List Int} {i : Nat} {te : TE} {vs : List Nat} {σ : L2.St} {H0 : Hp} {D : Addr} {Qd : Hp → Prop} (g : Int → Bool) (hl : SqL K H0 a (ns.map V.int)) (nD : H0 D = none) (h4 : ns.length ≤ 4000)
    (hw : ∀ x, wipe ((wipe σ vs).set i (some (.int x))) vs = wipe σ vs)
    (hs : ∀ x H3, x ∈ ns → Kx H0 H3 → ∀ Q : VK, (∀ H4, Kx H3 H4 → Q (.bl (g x)) H4) → te ((wipe σ vs).set i (some (.int x))) H3 Q)
    (hd : ∀ H3, Kx H0 H3 → H3 D = some (.lst ((ns.map g).map V.bl)) → Qd H3) :
    ∃ W : Nat → Nat → Hp → Prop, (∃ m, W 0 m (upd H0 D (.lst []))) ∧ ∀ i1 m H, W i1 m H →
      ((Itl K a).stop i1 H ∧ Qd H) ∨ ((Itl K a).go i1 H ∧ ∃ Nx : Hp → Prop, (∀ H', Nx H' → ∃ m', m' < m ∧ W (i1 + 1) m' H') ∧ ∀ x H', (Itl K a).yld i1 H x H' → gName i x (wipe σ vs) H' fun σ2 H2 => wipe σ2 vs = wipe σ vs ∧ tYes σ2 H2 fun b H3 =>
        if b = true then te σ2 H3 fun y H4 => ∃ acc, H4 D = some (.lst acc) ∧ acc.length < sizeLine ∧ Nx (upd H4 D (.lst (acc ++ [y]))) else Nx H3) := by
  refine lc_list (K := K) (a := a) (xs := ns.map V.int) (fun j H3 => Kx H0 H3 ∧ H3 D = some (.lst (((ns.take j).map g).map V.bl))) ⟨Kx.new nD, upd_same⟩ (fun j H3 _ h => h.1.l hl) ?_ ?_
  · rintro j y H3 hj ⟨k3, hD⟩
    obtain ⟨x, hx, rfl⟩ : ∃ x, ns[j]? = some x ∧ V.int x = y := by
      rw [List.getElem?_map] at hj
      exact Option.map_eq_some_iff.mp hj
    have e1 : ns.take (j + 1) = ns.take j ++ [x] := by rw [List.take_add_one, hx] <;> rfl
    refine ⟨hw x, yesT ?_⟩
    refine hs x H3 (List.mem_of_getElem? hx) k3 _ fun H4 k4 => ⟨_, k4.lst hD, ?_, (k3.trans k4).mut nD, ?_⟩
    · rw [List.length_map, List.length_map, List.length_take]
      exact lt80 (by omega)
    · rw [upd_same, e1, List.map_append, List.map_append] <;> rfl
  · rintro H3 ⟨k3, hD⟩
    rw [List.length_map, List.take_length] at hD
    exact hd H3 k3 hD
theorem all_map (g : Int → Bool) (ns : List Int) : (ns.map g).all id = ns.all g := by rw [List.all_map] <;> rfl
theorem any_map (g : Int → Bool) (ns : List Int) : (ns.map g).any id = ns.any g := by rw [List.any_map] <;> rfl
/-- [φ for x, y in zip(xs, ys)] -/
theorem lc_zipF {K : PySem.W.Frag} {a b : Addr} {xs ys : List V} {s1 s2 : Nat} {te : TE} {vs : List Nat} {σ : L2.St} {H0 : Hp} {D : Addr} {Qd : Hp → Prop} (φ : Nat → V) (hl : xs.length = ys.length) (h4 : xs.length ≤ 4000) (ha : SqL K H0 a xs) (hb : SqL K H0 b ys) (nD : H0 D = none)
    (hw : ∀ x y, wipe (((wipe σ vs).set s1 (some x)).set s2 (some y)) vs = wipe σ vs)
    (hs : ∀ (i : Nat) (x y : V) (T : Addr) (H3 : Hp), xs[i]? = some x → ys[i]? = some y → Kx H0 H3 → H3 T = none → ∀ Q : VK, (∀ H4, Kx (upd H3 T (.tup [x, y])) H4 → Q (φ i) H4) → te (((wipe σ vs).set s1 (some x)).set s2 (some y)) (upd H3 T (.tup [x, y])) Q)
    (hd : ∀ H3, Kx H0 H3 → H3 D = some (.lst ((List.range xs.length).map φ)) → Qd H3) :
    ∃ W : Nat → Nat → Hp → Prop, (∃ m, W 0 m (upd H0 D (.lst []))) ∧ ∀ i1 m H, W i1 m H →
      ((Itz K a b).stop i1 H ∧ Qd H) ∨ ((Itz K a b).go i1 H ∧ ∃ Nx : Hp → Prop, (∀ H', Nx H' → ∃ m', m' < m ∧ W (i1 + 1) m' H') ∧ ∀ x H', (Itz K a b).yld i1 H x H' → gTup K 2 (gCons (gName s1) (gCons (gName s2) gNil)) x (wipe σ vs) H' fun σ2 H2 => wipe σ2 vs = wipe σ vs ∧ tYes σ2 H2 fun b H3 =>
        if b = true then te σ2 H3 fun y H4 => ∃ acc, H4 D = some (.lst acc) ∧ acc.length < sizeLine ∧ Nx (upd H4 D (.lst (acc ++ [y]))) else Nx H3) := by
  refine ⟨fun i m H => m = xs.length - i ∧ i ≤ xs.length ∧ Kx H0 H ∧ H D = some (.lst ((List.range i).map φ)), ⟨xs.length, rfl, Nat.zero_le _, Kx.new nD, upd_same⟩, ?_⟩
  rintro i m H ⟨rfl, hi, k3, hD⟩
  have qx := k3.l ha
  have qy := k3.l hb
  by_cases hlt : i < xs.length
  · have hx : xs[i]? = some xs[i] := List.getElem?_eq_getElem hlt
    have hlt2 : i < ys.length := by omega
    have hy : ys[i]? = some ys[i] := List.getElem?_eq_getElem hlt2
    refine .inr ⟨⟨xs, ys, _, _, qx, qy, hx, hy⟩, fun H' => Kx H0 H' ∧ H' D = some (.lst ((List.range (i + 1)).map φ)), fun H' p' => ⟨xs.length - (i + 1), by omega, rfl, hlt, p'.1, p'.2⟩, fun v H' y => ?_⟩
    obtain ⟨T, x', y', rfl, hT, rfl, f1, f2⟩ := y
    have ht : (upd H T (.tup [x', y'])) T = some (.tup [x', y']) := upd_same
    have kT : Kx H (upd H T (.tup [x', y'])) := Kx.new hT
    refine ⟨T, _, rfl, st_of ht, rfl, _, _, rfl, _, _, rfl, rfl, hw x' y', yesT ?_⟩
    refine hs i x' y' T H (f1 xs qx) (f2 ys qy) k3 hT _ fun H4 k4 => ⟨_, (kT.trans k4).lst hD, ?_, ((k3.trans kT).trans k4).mut nD, ?_⟩
    · rw [List.length_map, List.length_range]
      exact lt80 (by omega)
    · rw [upd_same, List.range_succ, List.map_append] <;> rfl
  · have e : i = xs.length := by omega
    subst e
    exact .inl ⟨⟨xs, ys, qx, qy, Or.inl (Nat.le_refl _)⟩, hd H k3 hD⟩
/-- for i, x in enumerate(xs) -/
theorem for_enumL {K : PySem.W.Frag} {a : Addr} {xs : List V} {g : TG} {tb : TS} {D : Ends} {σ : L2.St} {H : Hp} (Pv : Nat → L2.St → Hp → Prop) (h0 : Pv 0 σ H) (hl : ∀ i σ H, Pv i σ H → SqL K H a xs)
    (hs : ∀ (i : Nat) (x : V) (T : Addr) (σ : L2.St) (H : Hp), xs[i]? = some x → Pv i σ H → H T = none → g (.ref T) σ (upd H T (.tup [.int (i : Nat), x])) fun σ2 H2 => tb { D with nx := Pv (i + 1), ct := Pv (i + 1), bk := D.nx } σ2 H2) (hd : ∀ σ H, Pv xs.length σ H → D.nx σ H) :
    ∃ W : Nat → Nat → L2.St → Hp → Prop, (∃ m, W 0 m σ H) ∧ ∀ i m σ H, W i m σ H →
      ((Ite K a).stop i H ∧ D.nx σ H) ∨ ((Ite K a).go i H ∧ ∃ N : L2.St → Hp → Prop, (∀ σ' H', N σ' H' → ∃ m', m' < m ∧ W (i + 1) m' σ' H') ∧ ∀ v H', (Ite K a).yld i H v H' → g v σ H' fun σ2 H2 => tb { D with nx := N, ct := N, bk := D.nx } σ2 H2) := by
  refine ⟨fun i m σ H => m = xs.length - i ∧ i ≤ xs.length ∧ Pv i σ H, ⟨xs.length, rfl, Nat.zero_le _, h0⟩, ?_⟩
  rintro i m σ H ⟨rfl, hi, p⟩
  have qx := hl i σ H p
  by_cases hlt : i < xs.length
  · have hx : xs[i]? = some xs[i] := List.getElem?_eq_getElem hlt
    refine .inr ⟨⟨xs, _, qx, hx⟩, Pv (i + 1), fun σ' H' p' => ⟨xs.length - (i + 1), by omega, rfl, hlt, p'⟩, fun v H' y => ?_⟩
    obtain ⟨T, x', rfl, hT, rfl, f1⟩ := y
    exact hs i x' T σ H (f1 xs qx) p hT
  · have e : i = xs.length := by omega
    subst e
    exact .inl ⟨⟨xs, qx, Nat.le_refl _⟩, hd σ H p⟩
end CH
end

section
set_option Elab.async false
set_option linter.all false
set_option maxRecDepth 100000
set_option maxHeartbeats 4000000
/-! defs with defaults, methods, own classes -/
namespace CH
open PySem PySem.Spec PyProof.Rows L2
abbrev FnQ (K : PySem.W.Frag) (x qual : Str) (st : Stmt) (dvs : List V) (f : Addr) (fd : FuncData) : Prop := FunD K x qual (defArgs st) (defBody st) (defScope st) dvs [] f fd
/-- the code object of the function at f -/
def CodeAt (K : PySem.W.Frag) (f c : Addr) : Prop := ∀ oc od osl fd', K.lookup f = some ⟨oc, od, .func fd', osl⟩ → fd'.code = .ref c
/-- a def with defaults -/
structure DefQ (K : PySem.W.Frag) (mg : Str → Option Value) (x : Str) (st : Stmt) (dvs : List V) (c : Addr) : Prop where
  ex : ∃ (f : Addr) (fd : FuncData), FnQ K x x st dvs f fd ∧ mg x = some (.ref f) ∧ CodeAt K f c
/-- a method of an own class -/
structure MetT (K : PySem.W.Frag) (C : Addr) (m qual : Str) (st : Stmt) (c : Addr) : Prop where
  ex : ∃ (f : Addr) (fd : FuncData), FnQ K m qual st [] f fd ∧ Meth K C m f ∧ Cls K C ∧ CodeAt K f c
/-- an own class with its __init__ -/
structure MakT (K : PySem.W.Frag) (mg : Str → Option Value) (x : Str) (C : Addr) (qual : Str) (st : Stmt) (c : Addr) : Prop where
  ex : ∃ (f : Addr) (fd : FuncData), FnQ K "__init__" qual st [] f fd ∧ Mk K C f ∧ mg x = some (.ref C) ∧ CodeAt K f c
/-- what of a class its objects want -/
structure Own (K : PySem.W.Frag) (mg : Str → Option Value) (x : Str) (C : Addr) : Prop where
  g : mg x = some (.ref C)
  cl : Cls K C
  ha : PySem.W.findIn K (.ref C) "__class__" = some (some (.builtin "object.__class__"))
  hn : PySem.W.specialIn K (.builtin "object.__class__") "__get__" = some (some (.builtin "getset_descriptor.__get__"))
  htk : PySem.W.takesIn K (.builtin "object.__class__") = some true
  hm : PySem.W.mroIn K C (.type "object") = some true
theorem Own.cv {K : PySem.W.Frag} {mg : Str → Option Value} {x : Str} {C : Addr} (e : Own K mg x C) : ∃ u, mg x = some u ∧ RelV (.ref C) u := ⟨_, e.g, rfl⟩
theorem Own.ty {K : PySem.W.Frag} {mg : Str → Option Value} {x : Str} {C : Addr} (e : Own K mg x C) {H : Hp} {a dx : Addr} {fs : List (Str × V)} (h : H a = some (.ins C dx fs)) : TyX K H (.ref a) (.ref C) := .base (.ins h e.cl e.ha e.hn e.htk e.hm)
section
variable {P : Program} {w : World} {K : PySem.W.Frag} {mg : Str → Option Value} {base : Heap}
abbrev Bodies (CX : CXT) (P : Program) (w : World) (K : PySem.W.Frag) (mg : Str → Option Value) (base : Heap) (N : List Str) (qual : Str) (st : Stmt) (c : Addr) (k : Nat) (sp : Sp) : Prop :=
  ∀ (f : Addr) (A : Around) (outer : List Env) (s : Shared) (H : Hp) (vs : List V) (Q : VK) (E : XK), Room k (A.deeper (envOfC qual (defScope st) s.heap.objs.size f (.ref c))) → sp vs H Q E →
      ∃ t, PSs (cxOf CX P w K mg base N qual (defScope st) f (.ref c) A outer s H E) (defBody st) t ∧ t { nx := fun _ H' => Q .non H', rt := Q } (start N vs) H
abbrev Bodies0 (P : Program) (w : World) (K : PySem.W.Frag) (mg : Str → Option Value) (base : Heap) (N : List Str) (qual : Str) (st : Stmt) (c : Addr) (k : Nat) (sp : Sp) : Prop :=
  ∀ (f : Addr) (A : Around) (outer : List Env) (s : Shared) (H : Hp) (vs : List V) (Q : VK) (E : XK), Room k (A.deeper (envOfC qual (defScope st) s.heap.objs.size f (.ref c))) → sp vs H Q E →
      ∃ t, PSs (cxOf CX0 P w K mg base N qual (defScope st) f (.ref c) A outer s H E).nox (defBody st) t ∧ t { nx := fun _ H' => Q .non H', rt := Q } (start N vs) H
theorem fnq {CX : CXT} {x qual : Str} {st : Stmt} {dvs : List V} {f c : Addr} {fd : FuncData} {N ps : List Str} {k : Nat} {sp : Sp} (F : FnQ K x qual st dvs f fd) (hc : CodeAt K f c) (S : FnScope N ps (defScope st)) (len : ∀ vs H Q E, sp vs H Q E → vs.length = ps.length)
    (hbody : Bodies CX P w K mg base N qual st c k sp) : FnOk P w K mg base CX (k + 1) f fd ps sp := by
  obtain ⟨oc, od, dV, kV, doc, pm, an, cdv, ct, osl, rfl, lk, hcd, _, _⟩ := F.ex
  obtain rfl : cdv = .ref c := hc _ _ _ _ lk
  exact fn_of lk hcd S len fun A outer s H vs Q E hr hsp => hbody f A outer s H vs Q E hr hsp
theorem Bodies0.x {N : List Str} {qual : Str} {st : Stmt} {c : Addr} {k : Nat} {sp : Sp} (h : Bodies0 P w K mg base N qual st c k sp) : Bodies CX0 P w K mg base N qual st c k sp := fun f A outer s H vs Q E hr hs => by
  obtain ⟨t, a, b⟩ := h f A outer s H vs Q E hr hs
  exact ⟨t, a.nox, b⟩
abbrev BindF (ps : List Str) (x qual : Str) (st : Stmt) : Prop :=
  ∀ (kV doc pm : Value) (an : Option Addr) (cdv ct : Value) (us : List Value), us.length = ps.length → bindArgs (PySem.W.fnOf x qual (defArgs st) (defBody st) (defScope st) .none kV doc pm an cdv ct) ⟨us, []⟩ = pure (ps.zip us)
/-- defaults from the j-th on fill up what is not written -/
abbrev BindD (ps : List Str) (x qual : Str) (st : Stmt) (n j m : Nat) : Prop :=
  ∀ (T : Addr) (kV doc pm : Value) (an : Option Addr) (cdv ct : Value) (us its : List Value), us.length = n → its.length = m →
      ∃ k, bindArgs (PySem.W.fnOf x qual (defArgs st) (defBody st) (defScope st) (.ref T) kV doc pm an cdv ct) ⟨us, []⟩ = seqItems? (.ref T) >>= k ∧ k (some its.toArray) = pure (ps.zip (us ++ its.drop j))
theorem calQ_of {x : Str} {st : Stmt} {dvs : List V} {c : Addr} {N ps : List Str} {k n j : Nat} {sp : Sp} (D : DefQ K mg x st dvs c) (S : FnScope N ps (defScope st)) (hd : dvs ≠ []) (hn : n + (dvs.length - j) = ps.length) (hb : BindD ps x x st n j dvs.length)
    (len : ∀ vs H Q E, sp vs H Q E → vs.length = ps.length) (hbody : Bodies0 P w K mg base N x st c k sp) : C8.Cal P w K mg base (k + 1) x sp (dvs.drop j) := by
  obtain ⟨f, fd, F, hm, hc⟩ := D.ex
  obtain ⟨ds, r, b⟩ := F.binds1 n j hd hn hb
  exact ⟨f, fd, ps, ds, fnq F hc S len hbody.x, hm, F.kp, b, r⟩
theorem met_of {C : Addr} {m qual : Str} {st : Stmt} {c : Addr} {N ps : List Str} {k : Nat} {sp : Sp} (D : MetT K C m qual st c) (S : FnScope N ps (defScope st)) (hb : BindF ps m qual st)
    (len : ∀ vs H Q E, sp vs H Q E → vs.length = ps.length) (hbody : Bodies0 P w K mg base N qual st c k sp) : C8.Met P w K mg base (k + 1) C m sp [] := by
  obtain ⟨f, fd, F, hm, cl, hc⟩ := D.ex
  exact ⟨f, fd, ps, [], cl, hm, fnq F hc S len hbody.x, FunD.bindsN F hb, .nil⟩
theorem mak_of {x : Str} {C : Addr} {qual : Str} {st : Stmt} {c : Addr} {N ps : List Str} {k : Nat} {sp : Sp} (D : MakT K mg x C qual st c) (S : FnScope N ps (defScope st)) (hb : BindF ps "__init__" qual st)
    (len : ∀ vs H Q E, sp vs H Q E → vs.length = ps.length) (hbody : Bodies0 P w K mg base N qual st c k sp) : C8.Mak P w K mg base (k + 1) x C sp [] := by
  obtain ⟨f, fd, F, hm, hg, hc⟩ := D.ex
  exact ⟨f, fd, ps, [], hm, fnq F hc S len hbody.x, hg, FunD.bindsN F hb, .nil⟩
/-- a method that may raise -/
structure MetX (P : Program) (w : World) (K : PySem.W.Frag) (mg : Str → Option Value) (base : Heap) (k : Nat) (C : Addr) (m : Str) (sp : Sp) : Prop where
  ex : ∃ (f : Addr) (fd : FuncData) (ps : List Str), Cls K C ∧ Meth K C m f ∧ FnOk P w K mg base (L2.CX P w) k f fd ps sp ∧ Binds K fd ps []
theorem metX_of {C : Addr} {m qual : Str} {st : Stmt} {c : Addr} {N ps : List Str} {k : Nat} {sp : Sp} (D : MetT K C m qual st c) (S : FnScope N ps (defScope st)) (hb : BindF ps m qual st)
    (len : ∀ vs H Q E, sp vs H Q E → vs.length = ps.length) (hbody : Bodies (L2.CX P w) P w K mg base N qual st c k sp) : MetX P w K mg base (k + 1) C m sp := by
  obtain ⟨f, fd, F, hm, cl, hc⟩ := D.ex
  exact ⟨f, fd, ps, cl, hm, fnq F hc S len hbody, FunD.bindsN F hb⟩
/-- .. where it does not raise -/
theorem MetX.met {k : Nat} {C : Addr} {m : Str} {sp sp' : Sp} (c : MetX P w K mg base k C m sp) (h : ∀ vs H Q E, sp' vs H Q E → sp vs H Q C8.E0) : C8.Met P w K mg base k C m sp' [] := by
  obtain ⟨f, fd, ps, cl, hm, F, b⟩ := c.ex
  refine ⟨f, fd, ps, [], cl, hm, ⟨fun vs H Q E q => F.len vs H Q _ (h _ _ _ _ q), fun A outer s H args us vs Q E hr he hb hv hs => ?_⟩, b, .nil⟩
  refine codeAny_mono (F.run A outer s H args us vs Q C8.E0 hr he hb hv (h _ _ _ _ hs)) fun r s' q => ?_
  cases r with
  | ok f => cases f <;> exact q
  | error e => exact (cx_e0 q).elim
/-- a class whose __init__ may raise -/
structure MakX (P : Program) (w : World) (K : PySem.W.Frag) (mg : Str → Option Value) (base : Heap) (k : Nat) (x : Str) (C : Addr) (sp : Sp) : Prop where
  ex : ∃ (f : Addr) (fd : FuncData) (ps : List Str), Mk K C f ∧ FnOk P w K mg base (L2.CX P w) k f fd ps sp ∧ mg x = some (.ref C) ∧ Binds K fd ps []
theorem makX_of {x : Str} {C : Addr} {qual : Str} {st : Stmt} {c : Addr} {N ps : List Str} {k : Nat} {sp : Sp} (D : MakT K mg x C qual st c) (S : FnScope N ps (defScope st)) (hb : BindF ps "__init__" qual st)
    (len : ∀ vs H Q E, sp vs H Q E → vs.length = ps.length) (hbody : Bodies (L2.CX P w) P w K mg base N qual st c k sp) : MakX P w K mg base (k + 1) x C sp := by
  obtain ⟨f, fd, F, hm, hg, hc⟩ := D.ex
  exact ⟨f, fd, ps, hm, fnq F hc S len hbody, hg, FunD.bindsN F hb⟩
theorem MakX.mak {k : Nat} {C : Addr} {x : Str} {sp sp' : Sp} (c : MakX P w K mg base k x C sp) (h : ∀ vs H Q E, sp' vs H Q E → sp vs H Q C8.E0) : C8.Mak P w K mg base k x C sp' [] := by
  obtain ⟨f, fd, ps, hm, F, hg, b⟩ := c.ex
  refine ⟨f, fd, ps, [], hm, ⟨fun vs H Q E q => F.len vs H Q _ (h _ _ _ _ q), fun A outer s H args us vs Q E hr he hb hv hs => ?_⟩, hg, b, .nil⟩
  refine codeAny_mono (F.run A outer s H args us vs Q C8.E0 hr he hb hv (h _ _ _ _ hs)) fun r s' q => ?_
  cases r with
  | ok f => cases f <;> exact q
  | error e => exact (cx_e0 q).elim
end
section
variable {X : Cx} {k j : Nat} {C : Addr} {x m : Str} {sp : Sp} {p pos apos : Pos} {e o : Expr} {es : List Expr} {ta : TE} {t : TA} {E : XK} {W : WX}
/-- one expression, two readings: whoever answers picks one -/
theorem pe_any2 {t1 t2 : TE} (a : PE X e t1) (b : PE X e t2) : PE X e (fun σ H Q => t1 σ H Q ∨ t2 σ H Q) := ⟨fun pins s σ H Q I h => h.elim (a.run pins s σ H Q I) (b.run pins s σ H Q I)⟩
/-- an object is made; what its __init__ raises leaves the def -/
theorem pe_mkX (c : MakX X.prog X.w X.K X.mg X.base k x C sp) (hr : Room j X.A) (hk : k + 1 ≤ j) (hg : Gl X x) (tk : Takes X (fun cls d _ H => E cls d H)) (ha : PA X (e :: es) t)
    (hdb : (x == ("__debug__" : Str)) = false := by decide) (he : starEach (e :: es) X.env = (false, eval e X.env) :: starEach es X.env := by rfl) (hpl : (backTo pos (starEach es X.env)).any (·.1) = false := by rfl) :
    PE X (.Call (.Name x p) (e :: es) [] pos) (tMake C sp [] E t) := by
  obtain ⟨f, fd, ps, M, F, hm, b⟩ := c.ex
  exact pe_make M F (hr.mono hk) hg hm b .nil (passes_call tk fun _ _ _ _ h => h) ha hdb he hpl
theorem pe_mtX {pl : Sem Bool} (c : MetX X.prog X.w X.K X.mg X.base k C m sp) (hr : Room j X.A) (hk : k ≤ j) (tk : Takes X (fun cls d _ H => E cls d H)) (he : PE X o ta) (ha : PA X (e :: es) t)
    (hst : starEach (e :: es) X.env = (false, eval e X.env) :: starEach es X.env := by rfl) (hpl : (backTo pos (starEach es X.env)).any (·.1) = false := by rfl)
    (ht : eval (.Call (.Attribute o m apos) (e :: es) [] pos) X.env = (do
      let ov ← eval o X.env
      standAt apos.atName
      let fx ← holding [ov] (getMethod ov m pl)
      callWith pos fx.1 fx.2 (backTo pos (starEach (e :: es) X.env)) (backToKw pos (keywordEach [] X.env))) := by rfl) :
    PE X (.Call (.Attribute o m apos) (e :: es) [] pos) (tMeth C m sp [] E ta t) := by
  obtain ⟨f, fd, ps, cl, hm, F, b⟩ := c.ex
  exact pe_meth (pl := pl) he cl hm F (hr.mono hk) b .nil (passes_call tk fun _ _ _ _ h => h) ha hst hpl ht
end
end CH
end

section
set_option Elab.async false
set_option linter.all false
set_option maxRecDepth 100000
set_option maxHeartbeats 4000000
namespace CH
open PySem PySem.Spec PyProof.Rows L2
/-- [φ for i, x in enumerate(xs)] -/
theorem lc_enumF {K : PySem.W.Frag} {a : Addr} {xs : List V} {s1 s2 : Nat} {te : TE} {vs : List Nat} {σ : L2.St} {H0 : Hp} {D : Addr} {Qd : Hp → Prop} (φ : Nat → V) (h4 : xs.length ≤ 4000) (ha : SqL K H0 a xs) (nD : H0 D = none)
    (hw : ∀ x y, wipe (((wipe σ vs).set s1 (some x)).set s2 (some y)) vs = wipe σ vs)
    (hs : ∀ (i : Nat) (x : V) (T : Addr) (H3 : Hp), xs[i]? = some x → Kx H0 H3 → H3 T = none → ∀ Q : VK, (∀ H4, Kx (upd H3 T (.tup [.int (i : Nat), x])) H4 → Q (φ i) H4) → te (((wipe σ vs).set s1 (some (.int (i : Nat)))).set s2 (some x)) (upd H3 T (.tup [.int (i : Nat), x])) Q)
    (hd : ∀ H3, Kx H0 H3 → H3 D = some (.lst ((List.range xs.length).map φ)) → Qd H3) :
    ∃ W : Nat → Nat → Hp → Prop, (∃ m, W 0 m (upd H0 D (.lst []))) ∧ ∀ i1 m H, W i1 m H →
      ((Ite K a).stop i1 H ∧ Qd H) ∨ ((Ite K a).go i1 H ∧ ∃ Nx : Hp → Prop, (∀ H', Nx H' → ∃ m', m' < m ∧ W (i1 + 1) m' H') ∧ ∀ x H', (Ite K a).yld i1 H x H' → gTup K 2 (gCons (gName s1) (gCons (gName s2) gNil)) x (wipe σ vs) H' fun σ2 H2 => wipe σ2 vs = wipe σ vs ∧ tYes σ2 H2 fun b H3 =>
        if b = true then te σ2 H3 fun y H4 => ∃ acc, H4 D = some (.lst acc) ∧ acc.length < sizeLine ∧ Nx (upd H4 D (.lst (acc ++ [y]))) else Nx H3) := by
  refine ⟨fun i m H => m = xs.length - i ∧ i ≤ xs.length ∧ Kx H0 H ∧ H D = some (.lst ((List.range i).map φ)), ⟨xs.length, rfl, Nat.zero_le _, Kx.new nD, upd_same⟩, ?_⟩
  rintro i m H ⟨rfl, hi, k3, hD⟩
  have qx := k3.l ha
  by_cases hlt : i < xs.length
  · have hx : xs[i]? = some xs[i] := List.getElem?_eq_getElem hlt
    refine .inr ⟨⟨xs, _, qx, hx⟩, fun H' => Kx H0 H' ∧ H' D = some (.lst ((List.range (i + 1)).map φ)), fun H' p' => ⟨xs.length - (i + 1), by omega, rfl, hlt, p'.1, p'.2⟩, fun v H' y => ?_⟩
    obtain ⟨T, x', rfl, hT, rfl, f1⟩ := y
    have ht : (upd H T (.tup [.int (i : Nat), x'])) T = some (.tup [.int (i : Nat), x']) := upd_same
    have kT : Kx H (upd H T (.tup [.int (i : Nat), x'])) := Kx.new hT
    refine ⟨T, _, rfl, st_of ht, rfl, _, _, rfl, _, _, rfl, rfl, hw _ x', yesT ?_⟩
    refine hs i x' T H (f1 xs qx) k3 hT _ fun H4 k4 => ⟨_, (kT.trans k4).lst hD, ?_, ((k3.trans kT).trans k4).mut nD, ?_⟩
    · rw [List.length_map, List.length_range]
      exact lt80 (by omega)
    · rw [upd_same, List.range_succ, List.map_append] <;> rfl
  · have e : i = xs.length := by omega
    subst e
    exact .inl ⟨⟨xs, qx, Nat.le_refl _⟩, hd H k3 hD⟩
/-- an object just made, its field stored -/
theorem Kx.made {H0 H1 : Hp} {x dx C : Addr} {fs fs' : List (Str × V)} (nx : H0 x = none) (ndx : H0 dx = none) (k : Kx (upd (upd H0 dx (.own x)) x (.ins C dx fs)) H1) : Kx H0 (upd H1 x (.ins C dx fs')) := by
  refine Kx.mut (Kx.trans ?_ k) nx
  exact (Kx.new ndx).mut nx
section
variable {P : Program} {w : World} {K : PySem.W.Frag} {mg : Str → Option Value} {base : Heap}
theorem fnok_of {x : Str} {st : Stmt} {f c : Addr} {fd : FuncData} {N ps : List Str} {k : Nat} {sp : Sp} (F : FnT K x st f fd) (hc : ∀ oc od osl fd', K.lookup f = some ⟨oc, od, .func fd', osl⟩ → fd'.code = .ref c) (S : FnScope N ps (defScope st))
    (len : ∀ vs H Q E, sp vs H Q E → vs.length = ps.length)
    (hbody : ∀ (A : Around) (outer : List Env) (s : Shared) (H : Hp) (vs : List V) (Q : VK) (E : XK), Room k (A.deeper (envOfC x (defScope st) s.heap.objs.size f (.ref c))) → sp vs H Q E →
      ∃ t, PSs (cxOf CX0 P w K mg base N x (defScope st) f (.ref c) A outer s H E).nox (defBody st) t ∧ t { nx := fun _ H' => Q .non H', rt := Q } (start N vs) H) : FnOk P w K mg base CX0 (k + 1) f fd ps sp := by
  obtain ⟨oc, od, dV, kV, doc, pm, an, cdv, ct, osl, rfl, lk, hcd, _, _⟩ := F.ex
  obtain rfl : cdv = .ref c := hc _ _ _ _ lk
  refine fn_of lk hcd S len fun A outer s H vs Q E hr hsp => ?_
  obtain ⟨t, h, q⟩ := hbody A outer s H vs Q E hr hsp
  exact ⟨t, h.nox, q⟩
end
/-- a weaker promise -/
theorem Cal.weak {P : Program} {w : World} {K : PySem.W.Frag} {mg : Str → Option Value} {base : Heap} {k : Nat} {x : Str} {sp sp' : Sp} {dvs : List V} (c : C8.Cal P w K mg base k x sp dvs) (h : ∀ vs H Q E, sp' vs H Q E → sp vs H Q E) : C8.Cal P w K mg base k x sp' dvs := by
  obtain ⟨f, fd, ps, ds, F, hm, kp, b, d⟩ := c.ex
  exact ⟨f, fd, ps, ds, ⟨fun vs H Q E q => F.len vs H Q E (h _ _ _ _ q), fun A outer s H args us vs Q E hr he hb hv hs => F.run A outer s H args us vs Q E hr he hb hv (h _ _ _ _ hs)⟩, hm, kp, b, d⟩
def rListOf (K : PySem.W.Frag) : List V → Hp → VK → Prop := fun xs H Q => ∃ p ys, xs = [V.ref p] ∧ (SqL K H p ys ∨ SqT K H p ys) ∧ ∀ l : Addr, H l = none → Q (V.ref l) (upd H l (.lst ys))
end CH
end

section
set_option Elab.async false
set_option linter.all false
namespace CH
open PySem L2
/-! ### words -/
structure Wd where
  c : Int
  h : Int
  p : Int
  o : Int
  a : Str
  deriving DecidableEq
def Wd.V (w : Wd) : List V := [.int w.c, .int w.h, .int w.p, .int w.o, .str w.a]
def ansL : List Str := ["yes", "maybe", "no"]
def Wd.ok (w : Wd) : Prop := 1 ≤ w.c ∧ w.c ≤ 99 ∧ 0 ≤ w.h ∧ w.h ≤ 3 ∧ 0 ≤ w.p ∧ w.p ≤ 7 ∧ 0 ≤ w.o ∧ w.o ≤ 11 ∧ w.a ∈ ansL
/-- the words ws stand at ts -/
def WAt (K : PySem.W.Frag) (H : Hp) (ts : List Addr) (ws : List Wd) : Prop := Paired (fun t w => SqT K H t w.V) ts ws
theorem WAt.k {K : PySem.W.Frag} {H H' : Hp} {ts : List Addr} {ws : List Wd} (k : Kx H H') (h : WAt K H ts ws) : WAt K H' ts ws := by
  induction h with
  | nil => exact .nil
  | cons r t ih => exact .cons (k.t r) ih
/-- a list or a dict of ours is changed: the tuples stay -/
theorem st_up {K : PySem.W.Frag} {H : Hp} {r t : Addr} {o u : HO} {xs : List V} (hr : H r = some o) (n1 : ∀ ys, o ≠ .tup ys) (n2 : ∀ b v, o ≠ .frz b v) (h : SqT K H t xs) : SqT K (upd H r u) t xs := by
  rcases h with (h | ⟨b, h⟩) | h
  · refine .inl (.inl ?_)
    rw [upd_ne fun e => n1 xs (Option.some.inj (hr.symm.trans (by rw [← e]; exact h)))]
    exact h
  · refine .inl (.inr ⟨b, ?_⟩)
    rw [upd_ne fun e => n2 b _ (Option.some.inj (hr.symm.trans (by rw [← e]; exact h)))]
    exact h
  · exact .inr h
theorem WAt.up {K : PySem.W.Frag} {H : Hp} {r : Addr} {o u : HO} {ts : List Addr} {ws : List Wd} (hr : H r = some o) (n1 : ∀ ys, o ≠ .tup ys) (n2 : ∀ b v, o ≠ .frz b v) (h : WAt K H ts ws) : WAt K (upd H r u) ts ws := by
  induction h with
  | nil => exact .nil
  | cons q t ih => exact .cons (st_up hr n1 n2 q) ih
theorem paired_len {α β : Type} {F : α → β → Prop} : ∀ {xs : List α} {ys : List β}, Paired F xs ys → xs.length = ys.length
  | _, _, .nil => rfl
  | _, _, .cons _ t => congrArg Nat.succ (paired_len t)
theorem paired_at {α β : Type} {F : α → β → Prop} : ∀ {xs : List α} {ys : List β} {i : Nat} {x : α}, Paired F xs ys → xs[i]? = some x → ∃ y, ys[i]? = some y ∧ F x y
  | _, _, _, _, .nil, h => by simp at h
  | _, _, 0, _, .cons r _, h => by
    cases h
    exact ⟨_, rfl, r⟩
  | _, _, i + 1, x, .cons _ t, h => paired_at (i := i) (x := x) t (by simpa using h)
theorem paired_snoc {α β : Type} {F : α → β → Prop} {x : α} {y : β} : ∀ {xs : List α} {ys : List β}, Paired F xs ys → F x y → Paired F (xs ++ [x]) (ys ++ [y])
  | _, _, .nil, h => .cons h .nil
  | _, _, .cons r t, h => .cons r (paired_snoc t h)
/-- a list of words at l -/
def WsAt (K : PySem.W.Frag) (H : Hp) (l : Addr) (ws : List Wd) : Prop := ∃ ts, SqL K H l (ts.map V.ref) ∧ WAt K H ts ws
theorem WsAt.k {K : PySem.W.Frag} {H H' : Hp} {l : Addr} {ws : List Wd} (k : Kx H H') (h : WsAt K H l ws) : WsAt K H' l ws := by
  obtain ⟨ts, h1, h2⟩ := h
  exact ⟨ts, k.l h1, h2.k k⟩
end CH
end

section
set_option Elab.async false
set_option linter.all false
set_option maxRecDepth 100000
namespace CH
open PySem PySem.Spec PyProof.Rows L2
/-! ### words once, in order -/
def plt (a b : Wd) : Prop := a.c < b.c ∨ (a.c = b.c ∧ a.h < b.h)
structure Once (ws us : List Wd) : Prop where
  mem : ∀ x, x ∈ us ↔ x ∈ ws
  ord : us.Pairwise plt
def Alike (ws : List Wd) : Prop := ∀ a ∈ ws, ∀ b ∈ ws, a.c = b.c → a.h = b.h → a = b
/-- tracked tuples -/
def TAt (H : Hp) (ts : List Addr) (ws : List Wd) : Prop := Paired (fun t w => H t = some (.tup w.V)) ts ws
theorem TAt.k {H H' : Hp} {ts : List Addr} {ws : List Wd} (k : Kx H H') (h : TAt H ts ws) : TAt H' ts ws := by
  induction h with
  | nil => exact .nil
  | cons r t ih => exact .cons (k.tup r) ih
theorem TAt.w {K : PySem.W.Frag} {H : Hp} {ts : List Addr} {ws : List Wd} (h : TAt H ts ws) : WAt K H ts ws := by
  induction h with
  | nil => exact .nil
  | cons r t ih => exact .cons (st_of r) ih
theorem TAt.up {H : Hp} {r : Addr} {o u : HO} {ts : List Addr} {ws : List Wd} (hr : H r = some o) (n1 : ∀ ys, o ≠ .tup ys) (h : TAt H ts ws) : TAt (upd H r u) ts ws := by
  induction h with
  | nil => exact .nil
  | cons q t ih =>
    refine .cons ?_ ih
    rw [upd_ne fun e => n1 _ (Option.some.inj (hr.symm.trans (by rw [← e]; exact q)))]
    exact q
def Wd.ints (w : Wd) : List Int := [w.c, w.h, w.p, w.o]
def wkOf (H : Hp) (t : Addr) : List Int × Str := match H t with
  | some (.tup [.int a, .int b, .int c, .int d, .str z]) => ([a, b, c, d], z)
  | _ => ([], "")
theorem wkOf_eq {H : Hp} {t : Addr} {w : Wd} (h : H t = some (.tup w.V)) : wkOf H t = (w.ints, w.a) := by
  unfold wkOf
  rw [h] <;> rfl
theorem wdV_ints (w : Wd) : wdV (w.ints, w.a) = w.V := rfl
/-- the words of the pairs stand at their places -/
def PAt (H : Hp) (qs : List (Addr × Wd)) : Prop := ∀ q ∈ qs, H q.1 = some (.tup q.2.V)
theorem PAt.k {H H' : Hp} {qs : List (Addr × Wd)} (k : Kx H H') (h : PAt H qs) : PAt H' qs := fun q hq => k.tup (h q hq)
theorem PAt.up {H : Hp} {r : Addr} {o u : HO} {qs : List (Addr × Wd)} (hr : H r = some o) (n1 : ∀ ys, o ≠ .tup ys) (h : PAt H qs) : PAt (upd H r u) qs := fun q hq => by
  rw [upd_ne fun e => n1 _ (Option.some.inj (hr.symm.trans (by rw [← e]; exact h q hq)))]
  exact h q hq
def kW (w : Wd) : List Key := [Sum.inl w.c, Sum.inl w.h]
theorem kW_inj {a b : Wd} (h : kW a = kW b) : a.c = b.c ∧ a.h = b.h := by
  unfold kW at h
  injection h with h1 h2
  injection h2 with h2 _
  exact ⟨Sum.inl.inj h1, Sum.inl.inj h2⟩
def entW (q : Addr × Wd) : List Key × V := (kW q.2, .ref q.1)
theorem valV_entW {w : Wd} : ∀ {qs : List (Addr × Wd)}, (∃ q ∈ qs, kW q.2 = kW w ∧ valV (qs.map entW) (kW w) = some (.ref q.1)) ∨ ((∀ q ∈ qs, kW q.2 ≠ kW w) ∧ valV (qs.map entW) (kW w) = none)
  | [] => .inr ⟨fun q h => absurd h (by simp), rfl⟩
  | q :: qs => by
    by_cases e : kW q.2 = kW w
    · refine .inl ⟨q, List.mem_cons_self, e, ?_⟩
      rw [List.map_cons, valV_pos (p := entW q) e] <;> rfl
    · rcases valV_entW (w := w) (qs := qs) with ⟨p, hp, h1, h2⟩ | ⟨h1, h2⟩
      · refine .inl ⟨p, List.mem_cons_of_mem _ hp, h1, ?_⟩
        rw [List.map_cons, valV_neg (p := entW q) e, h2]
      · refine .inr ⟨fun p hp => ?_, ?_⟩
        · rcases List.mem_cons.mp hp with rfl | hp
          · exact e
          · exact h1 p hp
        · rw [List.map_cons, valV_neg (p := entW q) e, h2]
/-- what was kept so far of ws -/
structure Kept (qs : List (Addr × Wd)) (ws : List Wd) : Prop where
  mem : ∀ x, x ∈ qs.map (·.2) ↔ x ∈ ws
  nd : qs.Pairwise fun a b => kW a.2 ≠ kW b.2
theorem Kept.nil : Kept [] [] := ⟨fun x => by simp, List.Pairwise.nil⟩
theorem Kept.same {qs : List (Addr × Wd)} {ws : List Wd} {x : Wd} (k : Kept qs ws) (h : x ∈ qs.map (·.2)) : Kept qs (ws ++ [x]) := by
  refine ⟨fun y => ?_, k.nd⟩
  rw [List.mem_append, List.mem_singleton]
  constructor
  · intro hy
    exact .inl ((k.mem y).mp hy)
  · rintro (hy | rfl)
    · exact (k.mem y).mpr hy
    · exact h
theorem Kept.more {qs : List (Addr × Wd)} {ws : List Wd} {q : Addr × Wd} (k : Kept qs ws) (h : ∀ p ∈ qs, kW p.2 ≠ kW q.2) : Kept (qs ++ [q]) (ws ++ [q.2]) := by
  refine ⟨fun y => ?_, List.pairwise_append.mpr ⟨k.nd, List.pairwise_singleton _ _, fun a ha b hb => ?_⟩⟩
  · rw [List.map_append, List.mem_append, List.mem_append, k.mem y]
    rfl
  · rw [List.mem_singleton.mp hb]
    exact h a ha
/-- sorted: once -/
theorem once_of {H : Hp} {qs : List (Addr × Wd)} {ws : List Wd} {ts' : List Addr} (k : Kept qs ws) (hp : PAt H qs) (p : ts'.Perm (qs.map (·.1))) (s : ts'.Pairwise fun x y => HT.lexLt (keyOf (wkOf H) y) (keyOf (wkOf H) x) = false) :
    ∃ us, TAt H ts' us ∧ Once ws us := by
  -- the pairs in the order of ts'
  obtain ⟨rs, pr, er⟩ := perm_lift (fun q : Addr × Wd => q.1) p qs rfl
  subst er
  have hr : ∀ q ∈ rs, H q.1 = some (.tup q.2.V) := fun q hq => hp q (pr.mem_iff.mp hq)
  have nd : rs.Pairwise fun a b => kW a.2 ≠ kW b.2 := (pr.pairwise_iff (fun h z => h z.symm)).mpr k.nd
  refine ⟨rs.map (·.2), ?_, fun x => ?_, ?_⟩
  · have all : ∀ l : List (Addr × Wd), (∀ q ∈ l, H q.1 = some (.tup q.2.V)) → TAt H (l.map (·.1)) (l.map (·.2)) := by
      intro l
      induction l with
      | nil => intro _; exact .nil
      | cons q l ih => intro h; exact .cons (h q List.mem_cons_self) (ih fun p hp => h p (List.mem_cons_of_mem _ hp))
    exact all rs hr
  · rw [← k.mem x]
    exact (pr.map (·.2)).mem_iff
  · rw [List.pairwise_map] at s ⊢
    refine List.Pairwise.imp_of_mem (fun {a b} ha hb h => ?_) (s.and nd)
    obtain ⟨h1, h2⟩ := h
    have ea := wkOf_eq (hr a ha)
    have eb := wkOf_eq (hr b hb)
    have h1' : HT.lexLt (wkey b.2.ints b.2.a) (wkey a.2.ints a.2.a) = false := by
      have z : HT.lexLt (keyOf (wkOf H) b.1) (keyOf (wkOf H) a.1) = false := h1
      unfold keyOf at z
      rw [ea, eb] at z
      exact z
    have h1'' : HT.lexLt (b.2.c :: b.2.h :: b.2.p :: b.2.o :: strInts b.2.a) (a.2.c :: a.2.h :: a.2.p :: a.2.o :: strInts a.2.a) = false := h1'
    rw [HT.lexLt_cons] at h1''
    by_cases e : b.2.c = a.2.c
    · rw [if_pos e, HT.lexLt_cons] at h1''
      by_cases e2 : b.2.h = a.2.h
      · exact absurd (by unfold kW; rw [e, e2] : kW a.2 = kW b.2) h2
      · rw [if_neg e2] at h1''
        have := of_decide_eq_false h1''
        exact .inr ⟨e.symm, by omega⟩
    · rw [if_neg e] at h1''
      have := of_decide_eq_false h1''
      exact .inl (by omega)
/-! ### words, lists of ints as data -/
def wdD (w : Wd) : PyData := .tuple [.int w.c, .int w.h, .int w.p, .int w.o, .str w.a]
theorem wdD_dp {K : PySem.W.Frag} {H : Hp} {t : Addr} {w : Wd} (h : SqT K H t w.V) : Dp K H (.ref t) (wdD w) := .tup h (.cons (.int _) (.cons (.int _) (.cons (.int _) (.cons (.int _) (.cons (.str _) .nil)))))
theorem beq_str (x y : Str) : (x == y) = decide (x = y) := by
  by_cases h : x = y
  · subst h; simp
  · rw [decide_eq_false h]
    exact beq_eq_false_iff_ne.mpr h
theorem wdD_eqv (a b : Wd) : PyData.eqv (wdD a) (wdD b) = decide (a = b) := by
  obtain ⟨a1, a2, a3, a4, a5⟩ := a
  obtain ⟨b1, b2, b3, b4, b5⟩ := b
  have e : PyData.eqv (wdD ⟨a1, a2, a3, a4, a5⟩) (wdD ⟨b1, b2, b3, b4, b5⟩) = ((a1 == b1) && ((a2 == b2) && ((a3 == b3) && ((a4 == b4) && ((a5 == b5) && true))))) := rfl
  rw [e, Bool.eq_iff_iff, decide_eq_true_eq]
  simp
theorem ans_ok {a : Str} (h : a ∈ ansL) : PyData.strOk a = true := by
  unfold ansL at h
  rcases List.mem_cons.mp h with rfl | h
  · decide +kernel
  · rcases List.mem_cons.mp h with rfl | h
    · decide +kernel
    · rw [List.mem_singleton.mp h]
      decide +kernel
theorem wdD_lay {w : Wd} (h : w.a ∈ ansL) : (wdD w).canLay0 = true := by
  simp only [wdD, PyData.canLay0, PyData.canLayAll0, ans_ok h, Bool.and_self]
theorem wdD_depth (w : Wd) : (wdD w).depth = 1 := by
  simp [wdD, PyData.depth, PyData.depthAll]
theorem wdD_sh {w : Wd} (h : w.a ∈ ansL) : SeqAt.shaped (wdD w) = true := by
  unfold SeqAt.shaped
  rw [wdD_lay h, wdD_depth]
  rfl
/-- a list of words -/
def wsD (ws : List Wd) : PyData := .list (ws.map wdD)
theorem eqvAll_map {α : Type} [DecidableEq α] {f : α → PyData} (hf : ∀ a b, PyData.eqv (f a) (f b) = decide (a = b)) : ∀ xs ys : List α, PyData.eqvAll (xs.map f) (ys.map f) = decide (xs = ys)
  | [], [] => rfl
  | [], _ :: _ => rfl
  | _ :: _, [] => rfl
  | x :: xs, y :: ys => by
    have e : PyData.eqvAll ((x :: xs).map f) ((y :: ys).map f) = (PyData.eqv (f x) (f y) && PyData.eqvAll (xs.map f) (ys.map f)) := rfl
    rw [e, hf, eqvAll_map hf xs ys, Bool.eq_iff_iff]
    simp
theorem wsD_eqv (xs ys : List Wd) : PyData.eqv (wsD xs) (wsD ys) = decide (xs = ys) := eqvAll_map wdD_eqv xs ys
theorem wsD_dp {K : PySem.W.Frag} {H : Hp} {l : Addr} {ws : List Wd} (h : WsAt K H l ws) : Dp K H (.ref l) (wsD ws) := by
  obtain ⟨ts, h1, h2⟩ := h
  refine .lst h1 ?_
  clear h1
  induction h2 with
  | nil => exact .nil
  | cons r t ih => exact .cons (wdD_dp r) ih
theorem wsD_sh {ws : List Wd} (h : ∀ x ∈ ws, x.ok) : SeqAt.shaped (wsD ws) = true := by
  have lay : ∀ l : List Wd, (∀ x ∈ l, x.ok) → PyData.canLayAll0 (l.map wdD) = true := by
    intro l
    induction l with
    | nil => intro _; rfl
    | cons x l ih =>
      intro h
      obtain ⟨_, _, _, _, _, _, _, _, ha⟩ := h x List.mem_cons_self
      simp only [List.map_cons, PyData.canLayAll0, wdD_lay ha, ih fun y hy => h y (List.mem_cons_of_mem _ hy), Bool.and_self]
  have dep : ∀ l : List Wd, PyData.depthAll (l.map wdD) ≤ 1 := by
    intro l
    induction l with
    | nil => simp [PyData.depthAll]
    | cons x l ih =>
      simp only [List.map_cons, PyData.depthAll, wdD_depth]
      omega
  unfold SeqAt.shaped wsD
  have e1 : (PyData.list (ws.map wdD)).canLay0 = true := by
    simp only [PyData.canLay0]
    exact lay ws h
  have e2 : (PyData.list (ws.map wdD)).depth ≤ 64 := by
    simp only [PyData.depth]
    have := dep ws
    omega
  rw [e1, decide_eq_true e2]
  rfl
/-- a list of ints -/
def isD (ns : List Int) : PyData := .list (ns.map PyData.int)
theorem int_eqv (a b : Int) : PyData.eqv (.int a) (.int b) = decide (a = b) := by
  have e : PyData.eqv (.int a) (.int b) = (a == b) := rfl
  rw [e, Bool.eq_iff_iff]
  simp
theorem isD_eqv (xs ys : List Int) : PyData.eqv (isD xs) (isD ys) = decide (xs = ys) := eqvAll_map int_eqv xs ys
theorem ints_dp {K : PySem.W.Frag} {H : Hp} : ∀ ns : List Int, DpAll K H (ns.map V.int) (ns.map PyData.int)
  | [] => .nil
  | n :: ns => .cons (.int n) (ints_dp ns)
theorem isD_dp {K : PySem.W.Frag} {H : Hp} {l : Addr} {ns : List Int} (h : SqL K H l (ns.map V.int)) : Dp K H (.ref l) (isD ns) := .lst h (ints_dp ns)
theorem ints_lay : ∀ ns : List Int, PyData.canLayAll0 (ns.map PyData.int) = true
  | [] => rfl
  | n :: ns => by simp only [List.map_cons, PyData.canLayAll0, PyData.canLay0, ints_lay ns, Bool.and_self]
theorem ints_depth : ∀ ns : List Int, PyData.depthAll (ns.map PyData.int) = 0
  | [] => rfl
  | n :: ns => by simp only [List.map_cons, PyData.depthAll, PyData.depth, ints_depth ns, Nat.max_self]
theorem isD_sh (ns : List Int) : SeqAt.shaped (isD ns) = true := by
  unfold SeqAt.shaped isD
  simp only [PyData.canLay0, ints_lay, PyData.depth, ints_depth]
  rfl
end CH
end

section
set_option Elab.async false
set_option linter.all false
set_option maxRecDepth 100000
namespace CH
open PySem PySem.Spec PyProof.Rows L2
/-! ### meetings -/
/-- people rise, from b + 1 on, to 7 -/
def Rise : Int → List Int → Prop
  | _, [] => True
  | b, n :: ns => b + 1 ≤ n ∧ n ≤ 7 ∧ Rise n ns
structure Mt where
  ps : List Int
  e : Int
  nds : List Int
structure Mt.ok (m : Mt) : Prop where
  p : Rise (-1) m.ps
  n : Rise (-1) m.nds
  e1 : 1 ≤ m.e
  e2 : m.e ≤ m.ps.length
  sub : ∀ x ∈ m.nds, x ∈ m.ps
/-- a meeting at a -/
structure MAt (K : PySem.W.Frag) (H : Hp) (a : Addr) (m : Mt) : Prop where
  ex : ∃ p n, SqT K H a [.ref p, .int m.e, .ref n] ∧ SqT K H p (m.ps.map V.int) ∧ SqT K H n (m.nds.map V.int)
theorem MAt.k {K : PySem.W.Frag} {H H' : Hp} {a : Addr} {m : Mt} (k : Kx H H') (h : MAt K H a m) : MAt K H' a m := by
  obtain ⟨p, n, h1, h2, h3⟩ := h.ex
  exact ⟨p, n, k.t h1, k.t h2, k.t h3⟩
theorem rise_len : ∀ {b : Int} {ns : List Int}, -1 ≤ b → Rise b ns → (ns.length : Int) ≤ 7 - b ∨ ns = []
  | _, [], _, _ => .inr rfl
  | b, n :: ns, hb, h => by
    obtain ⟨h1, h2, h3⟩ := h
    rcases rise_len (by omega) h3 with h | rfl
    · refine .inl ?_
      rw [List.length_cons]
      omega
    · refine .inl ?_
      show ((0 + 1 : Nat) : Int) ≤ 7 - b
      omega
theorem rise_len8 {ns : List Int} (h : Rise (-1) ns) : ns.length ≤ 8 := by
  rcases rise_len (by omega) h with h | rfl
  · omega
  · exact Nat.zero_le _
theorem rise_at : ∀ {b : Int} {ns : List Int} {i : Nat} {x : Int}, Rise b ns → ns[i]? = some x → (∀ y, (b :: ns)[i]? = some y → y + 1 ≤ x) ∧ x ≤ 7
  | b, n :: ns, 0, x, h, e => by
    cases e
    refine ⟨fun y hy => ?_, h.2.1⟩
    cases hy
    exact h.1
  | b, n :: ns, i + 1, x, h, e => by
    have e' : ns[i]? = some x := by simpa using e
    have ih := rise_at h.2.2 e'
    refine ⟨fun y hy => ih.1 y ?_, ih.2⟩
    simpa using hy
/-! ### answers -/
/-- the last word's answer -/
def lastA (us : List Wd) (p o : Int) : Option Str := us.foldl (fun b w => if w.p = p ∧ w.o = o then some w.a else b) none
theorem lastA_snoc (us : List Wd) (w : Wd) (p o : Int) : lastA (us ++ [w]) p o = if w.p = p ∧ w.o = o then some w.a else lastA us p o := by
  unfold lastA
  rw [List.foldl_append] <;> rfl
/-- the greatest word so far, for a person and an hour -/
def ple (a b : Wd) : Prop := a.c < b.c ∨ (a.c = b.c ∧ a.h ≤ b.h)
instance (a b : Wd) : Decidable (ple a b) := by unfold ple; exact inferInstance
/-- the word that counts -/
structure Best (ws : List Wd) (p o : Int) (x : Wd) : Prop where
  m : x ∈ ws
  ep : x.p = p
  eo : x.o = o
  top : ∀ y ∈ ws, y.p = p → y.o = o → ple y x
/-- the answer that counts, if there is a word -/
def IsAns (ws : List Wd) (p o : Int) (r : Option Str) : Prop := (∃ x, Best ws p o x ∧ r = some x.a) ∨ ((∀ y ∈ ws, ¬ (y.p = p ∧ y.o = o)) ∧ r = none)
theorem best_uniq {ws : List Wd} {p o : Int} {x y : Wd} (al : Alike ws) (h1 : Best ws p o x) (h2 : Best ws p o y) : x = y := by
  have a := h1.top y h2.m h2.ep h2.eo
  have b := h2.top x h1.m h1.ep h1.eo
  unfold ple at a b
  exact al x h1.m y h2.m (by omega) (by omega)
theorem isAns_uniq {ws : List Wd} {p o : Int} {r s : Option Str} (al : Alike ws) (h1 : IsAns ws p o r) (h2 : IsAns ws p o s) : r = s := by
  rcases h1 with ⟨x, hx, rfl⟩ | ⟨hn, rfl⟩
  · rcases h2 with ⟨y, hy, rfl⟩ | ⟨hn, rfl⟩
    · rw [best_uniq al hx hy]
    · exact absurd ⟨hx.ep, hx.eo⟩ (hn x hx.m)
  · rcases h2 with ⟨y, hy, rfl⟩ | ⟨_, rfl⟩
    · exact absurd ⟨hy.ep, hy.eo⟩ (hn y hy.m)
    · rfl
theorem lastA_is {us : List Wd} (h : us.Pairwise plt) (p o : Int) : IsAns us p o (lastA us p o) := by
  have key : ∀ n, ∀ us : List Wd, us.length = n → us.Pairwise plt → IsAns us p o (lastA us p o) := by
    intro n
    induction n with
    | zero =>
      intro us e _
      have e0 : us = [] := List.eq_nil_of_length_eq_zero e
      subst e0
      exact .inr ⟨fun y hy => absurd hy (by simp), rfl⟩
    | succ n ih =>
      intro us e hp
      have hne : us ≠ [] := fun z => by rw [z] at e; cases e
      obtain ⟨vs, w, rfl⟩ : ∃ vs w, us = vs ++ [w] := ⟨us.dropLast, us.getLast hne, (List.dropLast_concat_getLast hne).symm⟩
      have hl : vs.length = n := by
        rw [List.length_append] at e
        exact Nat.succ.inj e
      obtain ⟨h1, _, h3⟩ := List.pairwise_append.mp hp
      have ih := ih vs hl h1
      rw [lastA_snoc]
      by_cases hw : w.p = p ∧ w.o = o
      · rw [if_pos hw]
        refine .inl ⟨w, ⟨by simp, hw.1, hw.2, fun y hy _ _ => ?_⟩, rfl⟩
        rcases List.mem_append.mp hy with hy | hy
        · have q := h3 y hy w (by simp)
          unfold plt at q
          unfold ple
          omega
        · rw [List.mem_singleton.mp hy]
          unfold ple
          omega
      · rw [if_neg hw]
        rcases ih with ⟨x, hx, ex⟩ | ⟨hn, ex⟩
        · refine .inl ⟨x, ⟨List.mem_append_left _ hx.m, hx.ep, hx.eo, fun y hy e1 e2 => ?_⟩, ex⟩
          rcases List.mem_append.mp hy with hy | hy
          · exact hx.top y hy e1 e2
          · rw [List.mem_singleton.mp hy] at e1 e2
            exact absurd ⟨e1, e2⟩ hw
        · refine .inr ⟨fun y hy => ?_, ex⟩
          rcases List.mem_append.mp hy with hy | hy
          · exact hn y hy
          · rw [List.mem_singleton.mp hy]
            exact hw
  exact key _ us rfl h
theorem isAns_once {ws us : List Wd} {p o : Int} {r : Option Str} (ho : Once ws us) (h : IsAns us p o r) : IsAns ws p o r := by
  rcases h with ⟨x, hx, e⟩ | ⟨hn, e⟩
  · exact .inl ⟨x, ⟨(ho.mem x).mp hx.m, hx.ep, hx.eo, fun y hy => hx.top y ((ho.mem y).mpr hy)⟩, e⟩
  · exact .inr ⟨fun y hy => hn y ((ho.mem y).mpr hy), e⟩
def pleO (b : Option Wd) (w : Wd) : Prop := match b with
  | some x => ple x w
  | none => True
instance (b : Option Wd) (w : Wd) : Decidable (pleO b w) := by
  cases b with
  | none => exact isTrue trivial
  | some x => exact (inferInstance : Decidable (ple x w))
/-- the law's own way: the words as they come -/
def bestW (ws : List Wd) (p o : Int) : Option Wd := ws.foldl (fun b w => if w.p = p ∧ w.o = o ∧ pleO b w then some w else b) none
theorem bestW_snoc (us : List Wd) (w : Wd) (p o : Int) : bestW (us ++ [w]) p o = if w.p = p ∧ w.o = o ∧ pleO (bestW us p o) w then some w else bestW us p o := by
  unfold bestW
  rw [List.foldl_append]
  rfl
def ansW (ws : List Wd) (p o : Int) : Option Str := (bestW ws p o).map (·.a)
theorem bestW_is (p o : Int) : ∀ ws : List Wd, match bestW ws p o with
    | some x => Best ws p o x
    | none => ∀ y ∈ ws, ¬ (y.p = p ∧ y.o = o) := by
  have key : ∀ n, ∀ us : List Wd, us.length = n → match bestW us p o with
    | some x => Best us p o x
    | none => ∀ y ∈ us, ¬ (y.p = p ∧ y.o = o) := by
    intro n
    induction n with
    | zero =>
      intro us e
      have e0 : us = [] := List.eq_nil_of_length_eq_zero e
      subst e0
      show ∀ y ∈ ([] : List Wd), ¬ (y.p = p ∧ y.o = o)
      exact fun y hy => absurd hy (by simp)
    | succ n ih =>
      intro us e
      have hne : us ≠ [] := fun z => by rw [z] at e; cases e
      obtain ⟨vs, w, rfl⟩ : ∃ vs w, us = vs ++ [w] := ⟨us.dropLast, us.getLast hne, (List.dropLast_concat_getLast hne).symm⟩
      have hl : vs.length = n := by
        rw [List.length_append] at e
        exact Nat.succ.inj e
      have ih := ih vs hl
      rw [bestW_snoc]
      cases hb : bestW vs p o with
      | none =>
        rw [hb] at ih
        have ih : ∀ y ∈ vs, ¬ (y.p = p ∧ y.o = o) := ih
        by_cases hw : w.p = p ∧ w.o = o
        · rw [if_pos ⟨hw.1, hw.2, trivial⟩]
          refine (⟨by simp, hw.1, hw.2, fun y hy e1 e2 => ?_⟩ : Best (vs ++ [w]) p o w)
          rcases List.mem_append.mp hy with hy | hy
          · exact absurd ⟨e1, e2⟩ (ih y hy)
          · rw [List.mem_singleton.mp hy]
            unfold ple
            omega
        · rw [if_neg (fun z => hw ⟨z.1, z.2.1⟩)]
          show ∀ y ∈ vs ++ [w], ¬ (y.p = p ∧ y.o = o)
          intro y hy
          rcases List.mem_append.mp hy with hy | hy
          · exact ih y hy
          · rw [List.mem_singleton.mp hy]
            exact hw
      | some x =>
        rw [hb] at ih
        have ih : Best vs p o x := ih
        by_cases hw : w.p = p ∧ w.o = o ∧ pleO (some x) w
        · rw [if_pos hw]
          refine (⟨by simp, hw.1, hw.2.1, fun y hy e1 e2 => ?_⟩ : Best (vs ++ [w]) p o w)
          rcases List.mem_append.mp hy with hy | hy
          · have a := ih.top y hy e1 e2
            have b : ple x w := hw.2.2
            unfold ple at a b ⊢
            omega
          · rw [List.mem_singleton.mp hy]
            unfold ple
            omega
        · rw [if_neg hw]
          refine (⟨List.mem_append_left _ ih.m, ih.ep, ih.eo, fun y hy e1 e2 => ?_⟩ : Best (vs ++ [w]) p o x)
          rcases List.mem_append.mp hy with hy | hy
          · exact ih.top y hy e1 e2
          · rw [List.mem_singleton.mp hy] at e1 e2 ⊢
            have z : ¬ ple x w := fun z => hw ⟨e1, e2, z⟩
            unfold ple at z ⊢
            omega
  exact fun ws => key _ ws rfl
theorem ansW_is (ws : List Wd) (p o : Int) : IsAns ws p o (ansW ws p o) := by
  have h := bestW_is p o ws
  unfold ansW
  cases hb : bestW ws p o with
  | some x =>
    rw [hb] at h
    exact .inl ⟨x, h, rfl⟩
  | none =>
    rw [hb] at h
    exact .inr ⟨h, rfl⟩
/-- both ways give the same -/
theorem lastA_eq {ws us : List Wd} (al : Alike ws) (ho : Once ws us) (p o : Int) : lastA us p o = ansW ws p o :=
  isAns_uniq al (isAns_once ho (lastA_is ho.ord p o)) (ansW_is ws p o)
theorem filter_snoc {α : Type} (p : α → Bool) (l : List α) (x : α) : (l ++ [x]).filter p = l.filter p ++ if p x = true then [x] else [] := by
  rw [List.filter_append]
  congr 1
  by_cases h : p x = true
  · rw [List.filter_cons_of_pos h, if_pos h] <;> rfl
  · rw [List.filter_cons_of_neg h, if_neg h] <;> rfl
theorem nodup_sub_len {α : Type} [DecidableEq α] : ∀ {us ws : List α}, us.Nodup → (∀ x ∈ us, x ∈ ws) → us.length ≤ ws.length
  | [], _, _, _ => Nat.zero_le _
  | x :: us, ws, nd, h => by
    obtain ⟨h1, h2⟩ := List.nodup_cons.mp nd
    have hx : x ∈ ws := h x List.mem_cons_self
    have ih := nodup_sub_len (ws := ws.erase x) h2 fun y hy => by
      have ne : y ≠ x := fun e => h1 (e ▸ hy)
      exact (List.mem_erase_of_ne ne).mpr (h y (List.mem_cons_of_mem _ hy))
    have el := List.length_erase_of_mem hx
    have pos : 0 < ws.length := List.length_pos_of_mem hx
    rw [List.length_cons]
    omega
theorem once_len {ws us : List Wd} (h : Once ws us) : us.length ≤ ws.length := by
  have nd : us.Nodup := h.ord.imp fun {a b} z e => by
    subst e
    unfold plt at z
    omega
  exact nodup_sub_len nd fun x hx => (h.mem x).mp hx
/-! ### hours -/
def comeL (ps : List Int) (cs : List Str) (f : Int → Str) : List Int := ps.filter fun x => decide (f x ∈ cs)
def canB (m : Mt) (cs : List Str) (f : Int → Str) : Bool := decide (m.e ≤ (comeL m.ps cs f).length) && m.nds.all fun x => decide (x ∈ comeL m.ps cs f)
def hoursL (m : Mt) (cs : List Str) (F : Int → Int → Str) : List Int := ((List.range 12).filter fun o => canB m cs fun x => F x (Int.ofNat o)).map Int.ofNat
def ansF (ws : List Wd) (p o : Int) : Str := (ansW ws p o).getD "no"
end CH
end

section
set_option Elab.async false
set_option linter.all false
set_option maxRecDepth 100000
namespace CH
open PySem PySem.Spec PyProof.Rows L2
/-- a change of the answers alone -/
structure Same (g : Wd → Wd) : Prop where
  c : ∀ x, (g x).c = x.c
  h : ∀ x, (g x).h = x.h
  p : ∀ x, (g x).p = x.p
  o : ∀ x, (g x).o = x.o
theorem Same.kW {g : Wd → Wd} (s : Same g) (x : Wd) : kW (g x) = kW x := by
  unfold CH.kW
  rw [s.c, s.h]
theorem Same.ple {g : Wd → Wd} (s : Same g) (b : Option Wd) (x : Wd) : pleO (b.map g) (g x) ↔ pleO b x := by
  cases b with
  | none => exact Iff.rfl
  | some y =>
    show CH.ple (g y) (g x) ↔ CH.ple y x
    unfold CH.ple
    rw [s.c, s.c, s.h, s.h]
theorem bestW_map {g : Wd → Wd} (s : Same g) (p o : Int) (ws : List Wd) : bestW (ws.map g) p o = (bestW ws p o).map g := by
  unfold bestW
  have key : ∀ (ws : List Wd) (b : Option Wd), (ws.map g).foldl (fun b w => if w.p = p ∧ w.o = o ∧ pleO b w then some w else b) (b.map g) = (ws.foldl (fun b w => if w.p = p ∧ w.o = o ∧ pleO b w then some w else b) b).map g := by
    intro ws
    induction ws with
    | nil => exact fun b => rfl
    | cons x ws ih =>
      intro b
      rw [List.map_cons, List.foldl_cons, List.foldl_cons, ← ih]
      congr 1
      by_cases h : x.p = p ∧ x.o = o ∧ pleO b x
      · rw [if_pos h, if_pos ⟨(s.p x).trans h.1, (s.o x).trans h.2.1, (s.ple b x).mpr h.2.2⟩] <;> rfl
      · rw [if_neg h, if_neg fun z => h ⟨(s.p x).symm.trans z.1, (s.o x).symm.trans z.2.1, (s.ple b x).mp z.2.2⟩]
  exact key ws none
/-- maybe is taken for yes -/
def sureA (a : Str) : Str := if a = "maybe" then "yes" else a
def sureW (x : Wd) : Wd := { x with a := sureA x.a }
theorem sureW_same : Same sureW := ⟨fun _ => rfl, fun _ => rfl, fun _ => rfl, fun _ => rfl⟩
theorem ansF_sure (ws : List Wd) (p o : Int) : ansF (ws.map sureW) p o = sureA (ansF ws p o) := by
  unfold ansF ansW
  rw [bestW_map sureW_same]
  cases bestW ws p o with
  | none =>
    show (Str.ofString "no") = sureA "no"
    unfold sureA
    rw [if_neg (by decide)]
  | some x => rfl
theorem sureA_mem (a : Str) : sureA a ∈ (["yes"] : List Str) ↔ a ∈ (["yes", "maybe"] : List Str) := by
  unfold sureA
  by_cases h : a = "maybe"
  · rw [if_pos h]
    subst h
    simp
  · rw [if_neg h]
    simp [h]
theorem comeL_congr {ps : List Int} {cs ds : List Str} {f g : Int → Str} (h : ∀ x, decide (f x ∈ cs) = decide (g x ∈ ds)) : comeL ps cs f = comeL ps ds g := by
  unfold comeL
  congr 1
  funext x
  exact h x
theorem hours_sure (m : Mt) (ws : List Wd) : hoursL m ["yes"] (ansF (ws.map sureW)) = hoursL m ["yes", "maybe"] (ansF ws) := by
  unfold hoursL canB
  congr 2
  funext o
  rw [comeL_congr (cs := ["yes"]) (ds := ["yes", "maybe"]) (f := fun x => ansF (ws.map sureW) x (Int.ofNat o)) (g := fun x => ansF ws x (Int.ofNat o)) fun x => by
    rw [ansF_sure]
    exact decide_eq_decide.mpr (sureA_mem _)]
theorem filter_le {α : Type} {p q : α → Bool} (h : ∀ x, p x = true → q x = true) : ∀ l : List α, (l.filter p).length ≤ (l.filter q).length
  | [] => Nat.le_refl _
  | x :: l => by
    have ih := filter_le h l
    rw [List.filter_cons, List.filter_cons]
    by_cases e : p x = true
    · rw [if_pos e, if_pos (h x e), List.length_cons, List.length_cons]
      omega
    · rw [if_neg e]
      split
      · rw [List.length_cons]
        omega
      · exact ih
theorem hours_sub (m : Mt) (F : Int → Int → Str) : ∀ x ∈ hoursL m ["yes"] F, x ∈ hoursL m ["yes", "maybe"] F := by
  have mono : ∀ (f : Int → Str) (x : Int), decide (f x ∈ (["yes"] : List Str)) = true → decide (f x ∈ (["yes", "maybe"] : List Str)) = true := fun f x h => by
    have h := of_decide_eq_true h
    refine decide_eq_true ?_
    rw [List.mem_singleton.mp h]
    exact .head _
  intro x hx
  unfold hoursL at hx ⊢
  obtain ⟨o, ho, rfl⟩ := List.mem_map.mp hx
  refine List.mem_map.mpr ⟨o, ?_, rfl⟩
  obtain ⟨h1, h2⟩ := List.mem_filter.mp ho
  refine List.mem_filter.mpr ⟨h1, ?_⟩
  unfold canB at h2 ⊢
  simp only [Bool.and_eq_true, decide_eq_true_eq, List.all_eq_true] at h2 ⊢
  refine ⟨?_, fun y hy => ?_⟩
  · have h3 := h2.1
    have h4 : (comeL m.ps ["yes"] fun x => F x (Int.ofNat o)).length ≤ (comeL m.ps ["yes", "maybe"] fun x => F x (Int.ofNat o)).length := filter_le (mono fun x => F x (Int.ofNat o)) m.ps
    omega
  · have h3 := h2.2 y hy
    unfold comeL at h3 ⊢
    obtain ⟨h4, h5⟩ := List.mem_filter.mp h3
    exact List.mem_filter.mpr ⟨h4, mono (fun x => F x (Int.ofNat o)) y h5⟩
theorem sureW_ok {x : Wd} (h : x.ok) : (sureW x).ok := by
  obtain ⟨h1, h2, h3, h4, h5, h6, h7, h8, h9⟩ := h
  refine ⟨h1, h2, h3, h4, h5, h6, h7, h8, ?_⟩
  show sureA x.a ∈ ansL
  unfold sureA
  split
  · unfold ansL
    exact .head _
  · exact h9
/-- two lists of ints -/
def is2D (a b : List Int) : PyData := .list [isD a, isD b]
theorem is2D_eqv (a b : List Int) : PyData.eqv (is2D a b) (is2D a b) = true := by
  have e : PyData.eqv (is2D a b) (is2D a b) = decide ([a, b] = [a, b]) := eqvAll_map isD_eqv [a, b] [a, b]
  rw [e]
  exact decide_eq_true rfl
theorem is2D_sh (a b : List Int) : SeqAt.shaped (is2D a b) = true := by
  unfold SeqAt.shaped is2D isD
  simp only [PyData.canLay0, PyData.canLayAll0, ints_lay, PyData.depth, PyData.depthAll, ints_depth]
  rfl
theorem is2D_dp {K : PySem.W.Frag} {H : Hp} {l p q : Addr} {a b : List Int} (h : SqL K H l [.ref p, .ref q]) (hp : SqL K H p (a.map V.int)) (hq : SqL K H q (b.map V.int)) : Dp K H (.ref l) (is2D a b) :=
  .lst h (.cons (isD_dp hp) (.cons (isD_dp hq) .nil))
theorem hoursL_len (m : Mt) (cs : List Str) (F : Int → Int → Str) : (hoursL m cs F).length ≤ 12 := by
  unfold hoursL
  rw [List.length_map]
  exact List.length_filter_le _ _
end CH
end

section
set_option Elab.async false
set_option linter.all false
namespace CH
open PySem PySem.Spec PyProof.Rows L2
instance (x : Wd) : Decidable x.ok := by unfold Wd.ok; exact inferInstance
instance (ws : List Wd) : Decidable (Alike ws) := by unfold Alike; exact inferInstance
theorem Kept.alike {qs : List (Addr × Wd)} {ws : List Wd} (k : Kept qs ws) : Alike ws := by
  intro a ha b hb h1 h2
  obtain ⟨p, hp, ep⟩ := List.mem_map.mp ((k.mem a).mpr ha)
  obtain ⟨q, hq, eq⟩ := List.mem_map.mp ((k.mem b).mpr hb)
  have e : kW p.2 = kW q.2 := by unfold kW; rw [ep, eq, h1, h2]
  have inj : ∀ (qs : List (Addr × Wd)), (qs.Pairwise fun a b => kW a.2 ≠ kW b.2) → p ∈ qs → q ∈ qs → p = q := by
    intro qs
    induction qs with
    | nil => exact fun _ h _ => absurd h (by simp)
    | cons x qs ih =>
      intro h hp hq
      obtain ⟨h3, h4⟩ := List.pairwise_cons.mp h
      rcases List.mem_cons.mp hp with ea | ea
      · rcases List.mem_cons.mp hq with eb | eb
        · rw [ea, eb]
        · exact absurd (ea ▸ e) (h3 q eb)
      · rcases List.mem_cons.mp hq with eb | eb
        · exact absurd (eb ▸ e).symm (h3 p ea)
        · exact ih h4 ea eb
  rw [← ep, ← eq, inj qs k.nd hp hq]
theorem at_small {α : Type} {xs : List α} {i : Int} (h0 : 0 ≤ i) (h1 : i < (xs.length : Int)) : ∃ v, atI xs i = some v ∧ v ∈ xs := by
  have e : i = ((i.toNat : Nat) : Int) := (Int.toNat_of_nonneg h0).symm
  have h2 : i.toNat < xs.length := by omega
  have z := atI_nat (List.getElem?_eq_getElem h2)
  rw [← e] at z
  exact ⟨_, z, List.getElem_mem h2⟩
/-- all of unlike count or hand -/
def Diff (ws : List Wd) : Prop := ws.Pairwise fun a b => kW a ≠ kW b
theorem Diff.alike {ws : List Wd} (h : Diff ws) : Alike ws := by
  intro a ha b hb h1 h2
  have e : kW a = kW b := by unfold kW; rw [h1, h2]
  induction ws with
  | nil => exact absurd ha (by simp)
  | cons x ws ih =>
    obtain ⟨h3, h4⟩ := List.pairwise_cons.mp h
    rcases List.mem_cons.mp ha with ea | ea
    · rcases List.mem_cons.mp hb with eb | eb
      · rw [ea, eb]
      · exact absurd (ea ▸ e) (h3 b eb)
    · rcases List.mem_cons.mp hb with eb | eb
      · exact absurd ((eb ▸ e).symm) (h3 a ea)
      · exact ih h4 ea eb
theorem cut63 {ns : List Int} (h : ns.length ≤ 63) : cutV (ns.map V.int) none (some 63) = ns.map V.int := by
  unfold cutV
  rw [HT.sIx_none, show HT.sIx (ns.map V.int).length (ns.map V.int).length (some 63) = min 63 (ns.map V.int).length from HT.sIx_nat _ _ 63]
  rw [List.length_map, List.drop_zero, Nat.min_eq_right (by omega), Nat.sub_zero]
  exact List.take_of_length_le (by rw [List.length_map]; exact Nat.le_refl _)
end CH
end

section
set_option Elab.async false
set_option linter.all false
set_option maxRecDepth 100000
namespace CH
open PySem PySem.Spec PyProof.Rows L2
theorem plt_irr {a : Wd} : ¬ plt a a := fun h => by unfold plt at h; omega
theorem plt_asym {a b : Wd} (h : plt a b) : ¬ plt b a := fun g => by unfold plt at h g; omega
theorem pw_uniq : ∀ {us vs : List Wd}, us.Pairwise plt → vs.Pairwise plt → (∀ x, x ∈ us ↔ x ∈ vs) → us = vs
  | [], [], _, _, _ => rfl
  | [], v :: vs, _, _, m => absurd ((m v).mpr (.head _)) (by simp)
  | u :: us, [], _, _, m => absurd ((m u).mp (.head _)) (by simp)
  | u :: us, v :: vs, h1, h2, m => by
    obtain ⟨a1, a2⟩ := List.pairwise_cons.mp h1
    obtain ⟨b1, b2⟩ := List.pairwise_cons.mp h2
    have e : u = v := by
      rcases List.mem_cons.mp ((m u).mp (.head _)) with h | h
      · exact h
      · rcases List.mem_cons.mp ((m v).mpr (.head _)) with g | g
        · exact g.symm
        · exact absurd (b1 u h) (plt_asym (a1 v g))
    subst e
    rw [pw_uniq a2 b2 fun x => ⟨fun hx => ?_, fun hx => ?_⟩]
    · rcases List.mem_cons.mp ((m x).mp (.tail _ hx)) with h | h
      · rw [h] at hx
        exact absurd (a1 u hx) plt_irr
      · exact h
    · rcases List.mem_cons.mp ((m x).mpr (.tail _ hx)) with h | h
      · rw [h] at hx
        exact absurd (b1 u hx) plt_irr
      · exact h
theorem once_uniq {ws us vs : List Wd} (h1 : Once ws us) (h2 : Once ws vs) : us = vs := pw_uniq h1.ord h2.ord fun x => (h1.mem x).trans (h2.mem x).symm
theorem once_mem {ws us vs : List Wd} (h : Once ws vs) (m : ∀ x, x ∈ us ↔ x ∈ ws) : Once us vs := ⟨fun x => (h.mem x).trans (m x).symm, h.ord⟩
theorem isAns_mem {ws us : List Wd} {p o : Int} {r : Option Str} (m : ∀ x, x ∈ us ↔ x ∈ ws) (h : IsAns us p o r) : IsAns ws p o r := by
  rcases h with ⟨x, hx, e⟩ | ⟨hn, e⟩
  · exact .inl ⟨x, ⟨(m x).mp hx.m, hx.ep, hx.eo, fun y hy => hx.top y ((m y).mpr hy)⟩, e⟩
  · exact .inr ⟨fun y hy => hn y ((m y).mpr hy), e⟩
theorem ansF_mem {ws us : List Wd} (al : Alike ws) (m : ∀ x, x ∈ us ↔ x ∈ ws) : ansF us = ansF ws := by
  funext p o
  unfold ansF
  rw [isAns_uniq al (isAns_mem m (ansW_is us p o)) (ansW_is ws p o)]
theorem tat_qs {H : Hp} : ∀ {ts : List Addr} {ws : List Wd}, TAt H ts ws → ∃ qs : List (Addr × Wd), qs.map (·.1) = ts ∧ qs.map (·.2) = ws ∧ PAt H qs
  | _, _, .nil => ⟨[], rfl, rfl, fun _ h => absurd h (by simp)⟩
  | t :: _, x :: _, .cons a p => by
    obtain ⟨qs, h1, h2, h3⟩ := tat_qs p
    refine ⟨(t, x) :: qs, by rw [List.map_cons, h1], by rw [List.map_cons, h2], fun q hq => ?_⟩
    rcases List.mem_cons.mp hq with rfl | hq
    · exact a
    · exact h3 q hq
theorem tat_take {H : Hp} : ∀ {ts : List Addr} {ws : List Wd} (n : Nat), TAt H ts ws → TAt H (ts.take n) (ws.take n)
  | _, _, 0, _ => by rw [List.take_zero, List.take_zero]; exact .nil
  | _, _, _ + 1, .nil => .nil
  | _, _, n + 1, .cons a p => .cons a (tat_take n p)
theorem tat_drop {H : Hp} : ∀ {ts : List Addr} {ws : List Wd} (n : Nat), TAt H ts ws → TAt H (ts.drop n) (ws.drop n)
  | _, _, 0, h => h
  | _, _, _ + 1, .nil => .nil
  | _, _, n + 1, .cons _ p => tat_drop n p
theorem tat_apps {H : Hp} {ts rs : List Addr} {ws us : List Wd} (h1 : TAt H ts ws) (h2 : TAt H rs us) : TAt H (ts ++ rs) (ws ++ us) := by
  unfold TAt at h1 h2 ⊢
  induction h1 with
  | nil => exact h2
  | cons a _ ih => exact .cons a ih
theorem tat_rev {H : Hp} : ∀ {ts : List Addr} {ws : List Wd}, TAt H ts ws → TAt H ts.reverse ws.reverse
  | _, _, .nil => .nil
  | _, _, .cons a p => by
    rw [List.reverse_cons, List.reverse_cons]
    exact tat_apps (tat_rev p) (.cons a .nil)
theorem kept_of {qs : List (Addr × Wd)} (h : (qs.map (·.2)).Pairwise fun a b => kW a ≠ kW b) : Kept qs (qs.map (·.2)) := ⟨fun x => Iff.rfl, by rw [List.pairwise_map] at h; exact h⟩
theorem cut_take {ts : List Addr} {n : Nat} : cutV (ts.map V.ref) none (some (n : Int)) = (ts.take n).map V.ref := by
  unfold cutV
  rw [HT.sIx_none, show HT.sIx (ts.map V.ref).length (ts.map V.ref).length (some (n : Int)) = min n (ts.map V.ref).length from HT.sIx_nat _ _ n]
  rw [List.drop_zero, Nat.sub_zero, List.map_take]
  by_cases h : n ≤ (ts.map V.ref).length
  · rw [Nat.min_eq_left h]
  · rw [Nat.min_eq_right (by omega), List.take_of_length_le (Nat.le_refl _), List.take_of_length_le (by omega)]
theorem cut_drop {ts : List Addr} {n : Nat} (h : n ≤ ts.length) : cutV (ts.map V.ref) (some (n : Int)) none = (ts.drop n).map V.ref := by
  unfold cutV
  rw [HT.sIx_none, show HT.sIx (ts.map V.ref).length 0 (some (n : Int)) = min n (ts.map V.ref).length from HT.sIx_nat _ _ n]
  rw [Nat.min_eq_left (by rw [List.length_map]; exact h), List.map_drop]
  exact List.take_of_length_le (by rw [List.length_drop]; exact Nat.le_refl _)
theorem diff_len {ws us : List Wd} (d : Diff ws) (h : Once ws us) : us.length = ws.length := by
  have n1 : us.Nodup := h.ord.imp fun {a b} z e => by
    subst e
    exact plt_irr z
  have n2 : ws.Nodup := List.Pairwise.imp (fun {a b} z e => z (by rw [e])) d
  exact ((List.perm_ext_iff_of_nodup n1 n2).mpr h.mem).length_eq
theorem once_part {ws us vs : List Wd} (h : Once ws us) (m : ∀ x ∈ vs, x ∈ ws) : Once vs (us.filter fun x => decide (x ∈ vs)) :=
  ⟨fun x => by
    rw [List.mem_filter, decide_eq_true_eq]
    exact ⟨fun z => z.2, fun z => ⟨(h.mem x).mpr (m x z), z⟩⟩, h.ord.filter _⟩
theorem alike_sub {ws us : List Wd} (al : Alike ws) (m : ∀ x ∈ us, x ∈ ws) : Alike us := fun a ha b hb => al a (m a ha) b (m b hb)
/-- two lists of words -/
def ws2D (a b : List Wd) : PyData := .list [wsD a, wsD b]
theorem ws2D_eqv (a b : List Wd) : PyData.eqv (ws2D a b) (ws2D a b) = true := by
  have e : PyData.eqv (ws2D a b) (ws2D a b) = decide ([a, b] = [a, b]) := eqvAll_map wsD_eqv [a, b] [a, b]
  rw [e]
  exact decide_eq_true rfl
theorem wds_lay : ∀ l : List Wd, (∀ x ∈ l, x.ok) → PyData.canLayAll0 (l.map wdD) = true
  | [], _ => rfl
  | x :: l, h => by
    obtain ⟨_, _, _, _, _, _, _, _, ha⟩ := h x List.mem_cons_self
    simp only [List.map_cons, PyData.canLayAll0, wdD_lay ha, wds_lay l fun y hy => h y (List.mem_cons_of_mem _ hy), Bool.and_self]
theorem wds_dep : ∀ l : List Wd, PyData.depthAll (l.map wdD) ≤ 1
  | [] => by simp [PyData.depthAll]
  | x :: l => by
    have ih := wds_dep l
    simp only [List.map_cons, PyData.depthAll, wdD_depth]
    omega
theorem ws2D_sh {a b : List Wd} (ha : ∀ x ∈ a, x.ok) (hb : ∀ x ∈ b, x.ok) : SeqAt.shaped (ws2D a b) = true := by
  unfold SeqAt.shaped ws2D wsD
  have e1 : (PyData.list [.list (a.map wdD), .list (b.map wdD)]).canLay0 = true := by
    simp only [PyData.canLay0, PyData.canLayAll0, wds_lay a ha, wds_lay b hb, Bool.and_self]
  have e2 : (PyData.list [.list (a.map wdD), .list (b.map wdD)]).depth ≤ 64 := by
    have := wds_dep a
    have := wds_dep b
    simp only [PyData.depth, PyData.depthAll]
    omega
  rw [e1, decide_eq_true e2]
  rfl
theorem ws2D_dp {K : PySem.W.Frag} {H : Hp} {l p q : Addr} {a b : List Wd} (h : SqL K H l [.ref p, .ref q]) (hp : WsAt K H p a) (hq : WsAt K H q b) : Dp K H (.ref l) (ws2D a b) :=
  .lst h (.cons (wsD_dp hp) (.cons (wsD_dp hq) .nil))
end CH
end

section
set_option Elab.async false
set_option linter.all false
set_option maxRecDepth 100000
/-! words sorted, alike ones left in -/
namespace CH
open PySem PySem.Spec PyProof.Rows L2
theorem srt_of {H : Hp} {qs : List (Addr × Wd)} {ts' : List Addr} (hp : PAt H qs) (p : ts'.Perm (qs.map (·.1))) (s : ts'.Pairwise fun x y => HT.lexLt (keyOf (wkOf H) y) (keyOf (wkOf H) x) = false) :
    ∃ us, TAt H ts' us ∧ us.Perm (qs.map (·.2)) ∧ us.Pairwise ple := by
  obtain ⟨rs, pr, er⟩ := perm_lift (fun q : Addr × Wd => q.1) p qs rfl
  subst er
  have hr : ∀ q ∈ rs, H q.1 = some (.tup q.2.V) := fun q hq => hp q (pr.mem_iff.mp hq)
  refine ⟨rs.map (·.2), ?_, pr.map _, ?_⟩
  · have all : ∀ l : List (Addr × Wd), (∀ q ∈ l, H q.1 = some (.tup q.2.V)) → TAt H (l.map (·.1)) (l.map (·.2)) := by
      intro l
      induction l with
      | nil => intro _; exact .nil
      | cons q l ih => intro h; exact .cons (h q List.mem_cons_self) (ih fun p hp => h p (List.mem_cons_of_mem _ hp))
    exact all rs hr
  · rw [List.pairwise_map] at s ⊢
    refine List.Pairwise.imp_of_mem (fun {a b} ha hb h => ?_) s
    have ea := wkOf_eq (hr a ha)
    have eb := wkOf_eq (hr b hb)
    have h1' : HT.lexLt (wkey b.2.ints b.2.a) (wkey a.2.ints a.2.a) = false := by
      have z : HT.lexLt (keyOf (wkOf H) b.1) (keyOf (wkOf H) a.1) = false := h
      unfold keyOf at z
      rw [ea, eb] at z
      exact z
    have h1'' : HT.lexLt (b.2.c :: b.2.h :: b.2.p :: b.2.o :: strInts b.2.a) (a.2.c :: a.2.h :: a.2.p :: a.2.o :: strInts a.2.a) = false := h1'
    rw [HT.lexLt_cons] at h1''
    by_cases e : b.2.c = a.2.c
    · rw [if_pos e, HT.lexLt_cons] at h1''
      by_cases e2 : b.2.h = a.2.h
      · exact .inr ⟨e.symm, by omega⟩
      · rw [if_neg e2] at h1''
        have := of_decide_eq_false h1''
        exact .inr ⟨e.symm, by omega⟩
    · rw [if_neg e] at h1''
      have := of_decide_eq_false h1''
      exact .inl (by omega)
theorem lastA_isW {us : List Wd} (h : us.Pairwise ple) (p o : Int) : IsAns us p o (lastA us p o) := by
  have key : ∀ n, ∀ us : List Wd, us.length = n → us.Pairwise ple → IsAns us p o (lastA us p o) := by
    intro n
    induction n with
    | zero =>
      intro us e _
      have e0 : us = [] := List.eq_nil_of_length_eq_zero e
      subst e0
      exact .inr ⟨fun y hy => absurd hy (by simp), rfl⟩
    | succ n ih =>
      intro us e hp
      have hne : us ≠ [] := fun z => by rw [z] at e; cases e
      obtain ⟨vs, w, rfl⟩ : ∃ vs w, us = vs ++ [w] := ⟨us.dropLast, us.getLast hne, (List.dropLast_concat_getLast hne).symm⟩
      have hl : vs.length = n := by
        rw [List.length_append] at e
        exact Nat.succ.inj e
      obtain ⟨h1, _, h3⟩ := List.pairwise_append.mp hp
      have ih := ih vs hl h1
      rw [lastA_snoc]
      by_cases hw : w.p = p ∧ w.o = o
      · rw [if_pos hw]
        refine .inl ⟨w, ⟨by simp, hw.1, hw.2, fun y hy _ _ => ?_⟩, rfl⟩
        rcases List.mem_append.mp hy with hy | hy
        · have q := h3 y hy w (by simp)
          exact q
        · rw [List.mem_singleton.mp hy]
          unfold ple
          omega
      · rw [if_neg hw]
        rcases ih with ⟨x, hx, ex⟩ | ⟨hn, ex⟩
        · refine .inl ⟨x, ⟨List.mem_append_left _ hx.m, hx.ep, hx.eo, fun y hy e1 e2 => ?_⟩, ex⟩
          rcases List.mem_append.mp hy with hy | hy
          · exact hx.top y hy e1 e2
          · rw [List.mem_singleton.mp hy] at e1 e2
            exact absurd ⟨e1, e2⟩ hw
        · refine .inr ⟨fun y hy => ?_, ex⟩
          rcases List.mem_append.mp hy with hy | hy
          · exact hn y hy
          · rw [List.mem_singleton.mp hy]
            exact hw
  exact key _ us rfl h
theorem lastA_srt {ws us : List Wd} (al : Alike ws) (pm : us.Perm ws) (hs : us.Pairwise ple) (p o : Int) : lastA us p o = ansW ws p o :=
  isAns_uniq al (isAns_mem (fun x => pm.mem_iff) (lastA_isW hs p o)) (ansW_is ws p o)
end CH
end

section
set_option Elab.async false
set_option linter.all false
set_option maxRecDepth 100000
/-! fields: numbers, lists of numbers, lists of such lists -/
namespace CH
open PySem PySem.Spec PyProof.Rows L2
theorem ixn_at {n j : Nat} (hj : j < n) : ixN n (j : Int) = some j := by
  unfold ixN
  rw [if_pos (Int.natCast_nonneg j), if_pos (by omega), Int.toNat_natCast]
/-- an element of a field that is a list: a number, or a list of numbers -/
abbrev El := Sum Int (List Int)
def El.at_ (K : PySem.W.Frag) (H : Hp) (v : V) : El → Prop
  | .inl n => v = .int n
  | .inr r => ∃ t, v = .ref t ∧ SqL K H t (r.map V.int) ∧ r.length ≤ 1000
def El.new (H0 H : Hp) (v : V) : El → Prop
  | .inl n => v = .int n
  | .inr r => ∃ t, v = .ref t ∧ H t = some (.lst (r.map V.int)) ∧ H0 t = none ∧ r.length ≤ 1000
theorem El.at_k {K : PySem.W.Frag} {H H' : Hp} {v : V} {e : El} (k : Kx H H') (h : El.at_ K H v e) : El.at_ K H' v e := by
  cases e with
  | inl n => exact h
  | inr r =>
    obtain ⟨t, a, b, c⟩ := h
    exact ⟨t, a, k.l b, c⟩
/-- the new elements so far: none of them is told or rest, none twice -/
structure Cp (H0 H : Hp) (p q : Addr) (ns : List V) (es : List El) : Prop where
  pr : Paired (El.new H0 H) ns es
  d : ∀ t, V.ref t ∈ ns → t ≠ p ∧ t ≠ q
  n : ∀ (i j : Nat) (t : Addr), ns[i]? = some (V.ref t) → ns[j]? = some (V.ref t) → i = j
theorem Cp.nil {H0 H : Hp} {p q : Addr} : Cp H0 H p q [] [] := ⟨.nil, fun t h => absurd h (by simp), fun i j t h => by simp at h⟩
theorem Cp.mono {H0 H H' : Hp} {p q : Addr} {ns : List V} {es : List El} (h : Cp H0 H p q ns es) (k : ∀ t o, t ≠ p → t ≠ q → H t = some o → (∀ ps, o ≠ .tbl ps) → H' t = some o) : Cp H0 H' p q ns es := by
  refine ⟨?_, h.d, h.n⟩
  have go : ∀ {l : List V} {m : List El}, Paired (El.new H0 H) l m → (∀ t, V.ref t ∈ l → t ≠ p ∧ t ≠ q) → Paired (El.new H0 H') l m := by
    intro l m z
    induction z with
    | nil => intro _; exact .nil
    | @cons v e l m r t ih =>
      intro hd
      refine .cons ?_ (ih fun t ht => hd t (List.mem_cons_of_mem _ ht))
      cases e with
      | inl n => exact r
      | inr x =>
        obtain ⟨t, rfl, b, c, d⟩ := r
        obtain ⟨d1, d2⟩ := hd t List.mem_cons_self
        exact ⟨t, rfl, k t _ d1 d2 b (fun _ z => nomatch z), c, d⟩
  exact go h.pr h.d
theorem Cp.snoc {H0 H : Hp} {p q : Addr} {ns : List V} {es : List El} {v : V} {e : El} (h : Cp H0 H p q ns es) (hv : El.new H0 H v e) (hd : ∀ t, v = .ref t → t ≠ p ∧ t ≠ q ∧ V.ref t ∉ ns) : Cp H0 H p q (ns ++ [v]) (es ++ [e]) := by
  refine ⟨paired_snoc h.pr hv, fun t ht => ?_, fun i j t hi hj => ?_⟩
  · rcases List.mem_append.mp ht with z | z
    · exact h.d t z
    · have e := List.mem_singleton.mp z
      exact ⟨(hd t e.symm).1, (hd t e.symm).2.1⟩
  · have lt : ∀ i, (ns ++ [v])[i]? = some (V.ref t) → (i < ns.length ∧ ns[i]? = some (V.ref t)) ∨ (i = ns.length ∧ v = .ref t) := fun i hi => by
      by_cases z : i < ns.length
      · rw [List.getElem?_append_left z] at hi
        exact .inl ⟨z, hi⟩
      · rw [List.getElem?_append_right (Nat.le_of_not_lt z)] at hi
        have : i - ns.length = 0 := by
          cases e : i - ns.length with
          | zero => rfl
          | succ m => rw [e] at hi; simp at hi
        rw [this] at hi
        exact .inr ⟨by omega, by simpa using hi⟩
    rcases lt i hi with ⟨a, b⟩ | ⟨a, b⟩ <;> rcases lt j hj with ⟨c, d⟩ | ⟨c, d⟩
    · exact h.n i j t b d
    · exact absurd (List.mem_of_getElem? b) (hd t d).2.2
    · exact absurd (List.mem_of_getElem? d) (hd t b).2.2
    · rw [a, c]
/-- a field's list, new: of numbers -/
theorem new_ints {H0 H : Hp} : ∀ {vs : List V} {ns : List Int}, Paired (El.new H0 H) vs (ns.map Sum.inl) → vs = ns.map V.int
  | [], [], _ => rfl
  | [], _ :: _, h => nomatch h
  | _ :: _, [], h => nomatch h
  | v :: vs, n :: ns, .cons a t => by
    rw [List.map_cons, new_ints t, show v = .int n from a]
theorem at_ints {K : PySem.W.Frag} {H : Hp} : ∀ (ns : List Int), Paired (El.at_ K H) (ns.map V.int) (ns.map Sum.inl)
  | [] => .nil
  | n :: ns => .cons rfl (at_ints ns)
/-- .. of lists of numbers -/
def RowsAt (H : Hp) (ts : List Addr) (rs : List (List Int)) : Prop := Paired (fun t (r : List Int) => H t = some (.lst (r.map V.int)) ∧ r.length ≤ 1000) ts rs
def RowsIn (K : PySem.W.Frag) (H : Hp) (ts : List Addr) (rs : List (List Int)) : Prop := Paired (fun t (r : List Int) => SqL K H t (r.map V.int) ∧ r.length ≤ 1000) ts rs
theorem RowsAt.in_ {K : PySem.W.Frag} {H : Hp} {ts : List Addr} {rs : List (List Int)} (h : RowsAt H ts rs) : RowsIn K H ts rs := by
  induction h with
  | nil => exact .nil
  | cons r t ih => exact .cons ⟨sq_of r.1, r.2⟩ ih
theorem RowsAt.k {H H' : Hp} {ts : List Addr} {rs : List (List Int)} (k : Kx H H') (h : RowsAt H ts rs) : RowsAt H' ts rs := by
  induction h with
  | nil => exact .nil
  | cons r t ih => exact .cons ⟨k.lst r.1, r.2⟩ ih
theorem RowsAt.up {H : Hp} {p : Addr} {o : HO} {ts : List Addr} {rs : List (List Int)} (h : RowsAt H ts rs) (n : ∀ t ∈ ts, t ≠ p) : RowsAt (upd H p o) ts rs := by
  induction h with
  | nil => exact .nil
  | @cons t r ts rs a b ih =>
    refine .cons ⟨?_, a.2⟩ (ih fun t ht => n t (List.mem_cons_of_mem _ ht))
    rw [upd_ne (n t List.mem_cons_self)]
    exact a.1
theorem RowsIn.k {K : PySem.W.Frag} {H H' : Hp} {ts : List Addr} {rs : List (List Int)} (k : Kx H H') (h : RowsIn K H ts rs) : RowsIn K H' ts rs := by
  induction h with
  | nil => exact .nil
  | cons r t ih => exact .cons ⟨k.l r.1, r.2⟩ ih
theorem at_rows {K : PySem.W.Frag} {H : Hp} {ts : List Addr} {rs : List (List Int)} (h : RowsIn K H ts rs) : Paired (El.at_ K H) (ts.map V.ref) (rs.map Sum.inr) := by
  induction h with
  | nil => exact .nil
  | cons r t ih => exact .cons ⟨_, rfl, r.1, r.2⟩ ih
theorem RowsAt.set_ {H : Hp} : ∀ {ts : List Addr} {rs : List (List Int)} {i : Nat} {t : Addr} {ns : List Int}, RowsAt H ts rs → ts.Nodup → ts[i]? = some t → ns.length ≤ 1000 → RowsAt (upd H t (.lst (ns.map V.int))) ts (rs.set i ns)
  | _, _, _, _, _, .nil, _, hi, _ => by simp at hi
  | t0 :: ts, r0 :: rs, 0, t, ns, .cons a b, nd, hi, hn => by
    have e : t0 = t := by simpa using hi
    subst e
    obtain ⟨n1, n2⟩ := List.nodup_cons.mp nd
    exact .cons ⟨upd_same, hn⟩ (RowsAt.up b fun y hy z => n1 (z ▸ hy))
  | t0 :: ts, r0 :: rs, i + 1, t, ns, .cons a b, nd, hi, hn => by
    obtain ⟨n1, n2⟩ := List.nodup_cons.mp nd
    have hi' : ts[i]? = some t := by simpa using hi
    have ne : t0 ≠ t := fun z => n1 (z ▸ List.mem_of_getElem? hi')
    exact .cons ⟨by rw [upd_ne ne]; exact a.1, a.2⟩ (RowsAt.set_ b n2 hi' hn)
/-- the rows of an answer: new, none twice, none is the list -/
structure RowsNew (H0 H : Hp) (l : Addr) (ts : List Addr) (rs : List (List Int)) : Prop where
  at_ : RowsAt H ts rs
  new : ∀ t ∈ ts, H0 t = none
  ne : ∀ t ∈ ts, t ≠ l
  nd : ts.Nodup
theorem new_rows {H0 H : Hp} {p q : Addr} : ∀ {vs : List V} {rs : List (List Int)}, Paired (El.new H0 H) vs (rs.map Sum.inr) → ∃ ts : List Addr, vs = ts.map V.ref ∧ RowsAt H ts rs ∧ ∀ t ∈ ts, H0 t = none
  | [], [], _ => ⟨[], rfl, .nil, fun t h => absurd h (by simp)⟩
  | [], _ :: _, h => nomatch h
  | _ :: _, [], h => nomatch h
  | v :: vs, r :: rs, .cons a t => by
    obtain ⟨ts, e, b, c⟩ := new_rows (p := p) (q := q) t
    obtain ⟨x, rfl, h1, h2, h3⟩ := a
    refine ⟨x :: ts, by rw [e]; rfl, .cons ⟨h1, h3⟩ b, fun y hy => ?_⟩
    rcases List.mem_cons.mp hy with rfl | hy
    · exact h2
    · exact c y hy
theorem Cp.rows {H0 H : Hp} {p q : Addr} {vs : List V} {rs : List (List Int)} (h : Cp H0 H p q vs (rs.map Sum.inr)) : ∃ ts : List Addr, vs = ts.map V.ref ∧ RowsNew H0 H p ts rs := by
  obtain ⟨ts, rfl, b, c⟩ := new_rows (p := p) (q := q) h.pr
  refine ⟨ts, rfl, b, c, fun t ht => (h.d t (List.mem_map.mpr ⟨t, ht, rfl⟩)).1, ?_⟩
  refine List.pairwise_iff_getElem.mpr fun i j hi hj hij e => ?_
  have z : ts[j]? = some ts[j] := List.getElem?_eq_getElem hj
  have z0 : ts[i]? = some ts[j] := by rw [List.getElem?_eq_getElem hi, e]
  have a1 : (ts.map V.ref)[i]? = some (V.ref ts[j]) := by rw [List.getElem?_map, z0] <;> rfl
  have a2 : (ts.map V.ref)[j]? = some (V.ref ts[j]) := by rw [List.getElem?_map, z] <;> rfl
  exact absurd (h.n i j _ a1 a2) (by omega)
end CH
end

section
set_option Elab.async false
set_option linter.all false
set_option maxRecDepth 100000
namespace CH
open PySem PySem.Spec PyProof.Rows L2
/-- people bar a meeting at an hour -/
def barsB (m : Mt) (f : Int → Option Str) (ns : List Int) : Bool :=
  decide ns.Nodup && (ns.all fun x => decide (x ∈ m.ps)) && (ns.all fun x => !decide ((f x).getD "no" = "yes")) && (decide ((m.ps.length : Int) - m.e < (ns.length : Int)) || ns.any fun x => decide (x ∈ m.nds))
theorem cutV_take {xs : List V} {n : Nat} : cutV xs none (some (n : Int)) = xs.take n := by
  unfold cutV
  rw [HT.sIx_none, show HT.sIx xs.length xs.length (some (n : Int)) = min n xs.length from HT.sIx_nat _ _ n]
  rw [List.drop_zero, Nat.sub_zero]
  by_cases h : n ≤ xs.length
  · rw [Nat.min_eq_left h]
  · rw [Nat.min_eq_right (by omega), List.take_length, List.take_of_length_le (by omega)]
theorem cutV_drop {xs : List V} {n : Nat} : cutV xs (some (n : Int)) none = xs.drop n := by
  unfold cutV
  rw [HT.sIx_none, show HT.sIx xs.length 0 (some (n : Int)) = min n xs.length from HT.sIx_nat _ _ n]
  by_cases h : n ≤ xs.length
  · rw [Nat.min_eq_left h]
    exact List.take_of_length_le (by rw [List.length_drop]; exact Nat.le_refl _)
  · rw [Nat.min_eq_right (by omega), List.drop_length, List.take_nil, List.drop_eq_nil_of_le (by omega)]
theorem hoursL_mem {m : Mt} {cs : List Str} {F : Int → Int → Str} {h : Int} (z : h ∈ hoursL m cs F) : 0 ≤ h ∧ h ≤ 11 := by
  unfold hoursL at z
  obtain ⟨o, ho, rfl⟩ := List.mem_map.mp z
  have := List.mem_range.mp (List.mem_filter.mp ho).1
  show (0 : Int) ≤ (o : Int) ∧ (o : Int) ≤ 11
  omega
/-- what At tells -/
def atB (m : Mt) (ws : List Wd) (h : Int) : Bool := decide ((hoursL m ["yes"] (ansF ws)).take 1 = [h])
/-- what Barred tells -/
def barredB (m : Mt) (ws : List Wd) (rs : List (List Int)) : Bool := decide (rs.length = 12) && (List.range rs.length).all fun i => barsB m (fun x => ansW ws x (i : Nat)) (rs.getD i [])
/-- words as shows takes them -/
structure Words (K : PySem.W.Frag) (H : Hp) (l : Addr) (ws : List Wd) : Prop where
  ex : ∃ ts : List Addr, SqL K H l (ts.map V.ref) ∧ TAt H ts ws
  h80 : ws.length ≤ 80
  ok : ∀ x ∈ ws, x.ok
  al : Alike ws
theorem Words.k {K : PySem.W.Frag} {H H' : Hp} {l : Addr} {ws : List Wd} (k : Kx H H') (h : Words K H l ws) : Words K H' l ws := by
  obtain ⟨⟨ts, a, b⟩, c, d, e⟩ := h
  exact ⟨⟨ts, k.l a, b.k k⟩, c, d, e⟩
theorem Words.at_ {K : PySem.W.Frag} {H : Hp} {l : Addr} {ws : List Wd} (h : Words K H l ws) : WsAt K H l ws := by
  obtain ⟨⟨ts, a, b⟩, c, d, e⟩ := h
  exact ⟨ts, a, b.w⟩
def notYes (m : Mt) (f : Int → Option Str) : List Int := m.ps.filter fun x => !decide ((f x).getD "no" = "yes")
theorem rise_gt : ∀ {ns : List Int} {b : Int}, Rise b ns → ∀ x ∈ ns, b < x
  | [], _, _, x, h => absurd h (by simp)
  | y :: ys, b, r, x, h => by
    obtain ⟨r1, r2, r3⟩ := r
    rcases List.mem_cons.mp h with rfl | h
    · omega
    · have := rise_gt r3 x h
      omega
theorem rise_nodup : ∀ {ns : List Int} {b : Int}, Rise b ns → ns.Nodup
  | [], _, _ => List.nodup_nil
  | y :: ys, b, r => by
    obtain ⟨r1, r2, r3⟩ := r
    refine List.nodup_cons.mpr ⟨fun h => ?_, rise_nodup r3⟩
    have := rise_gt r3 y h
    omega
theorem notYes_split (m : Mt) (f : Int → Option Str) : (comeL m.ps ["yes"] fun x => (f x).getD "no").length + (notYes m f).length = m.ps.length := by
  unfold comeL notYes
  generalize m.ps = ps
  induction ps with
  | nil => rfl
  | cons x xs ih =>
    have hm : ((f x).getD "no" ∈ [("yes" : Str)]) ↔ (f x).getD "no" = "yes" := List.mem_singleton
    by_cases h : (f x).getD "no" = "yes"
    · rw [List.filter_cons_of_pos (p := fun x => decide ((fun x => (f x).getD "no") x ∈ [("yes" : Str)])) (decide_eq_true (hm.mpr h)), List.filter_cons_of_neg (p := fun x => !decide ((f x).getD "no" = "yes")) (by rw [decide_eq_true h]; decide), List.length_cons, List.length_cons]
      omega
    · rw [List.filter_cons_of_neg (p := fun x => decide ((fun x => (f x).getD "no") x ∈ [("yes" : Str)])) (by rw [decide_eq_false (fun z => h (hm.mp z))]; decide), List.filter_cons_of_pos (p := fun x => !decide ((f x).getD "no" = "yes")) (by rw [decide_eq_false h]; rfl), List.length_cons, List.length_cons]
      omega
theorem bars_all {m : Mt} {f : Int → Option Str} (mok : m.ok) (h : (canB m ["yes"] fun x => (f x).getD "no") = false) : barsB m f (notYes m f) = true := by
  have hs := notYes_split m f
  unfold barsB
  have h1 : (notYes m f).Nodup := List.Nodup.sublist (List.filter_sublist) (rise_nodup mok.p)
  have h2 : ((notYes m f).all fun x => decide (x ∈ m.ps)) = true := List.all_eq_true.mpr fun x hx => decide_eq_true (List.mem_filter.mp hx).1
  have h3 : ((notYes m f).all fun x => !decide ((f x).getD "no" = "yes")) = true := List.all_eq_true.mpr fun x hx => (List.mem_filter.mp hx).2
  rw [decide_eq_true h1, h2, h3, Bool.true_and, Bool.true_and, Bool.true_and]
  unfold canB at h
  rw [Bool.and_eq_false_iff] at h
  rw [Bool.or_eq_true]
  rcases h with h | h
  · left
    have := of_decide_eq_false h
    exact decide_eq_true (by omega)
  · right
    obtain ⟨x, hx, hn⟩ := List.all_eq_false.mp h
    have hp := mok.sub x hx
    have hn' : ¬ x ∈ comeL m.ps ["yes"] fun x => (f x).getD "no" := by simpa using hn
    refine List.any_eq_true.mpr ⟨x, List.mem_filter.mpr ⟨hp, ?_⟩, decide_eq_true hx⟩
    by_cases z : (f x).getD "no" = "yes"
    · exact absurd (List.mem_filter.mpr ⟨hp, decide_eq_true (by show (f x).getD "no" ∈ [("yes" : Str)]; rw [z]; exact List.mem_cons_self)⟩) hn'
    · rw [decide_eq_false z] <;> rfl
theorem bars_nil {m : Mt} {f : Int → Option Str} (mok : m.ok) : barsB m f [] = false := by
  unfold barsB
  have := mok.e2
  rw [show decide ((m.ps.length : Int) - m.e < (([] : List Int).length : Int)) = false from decide_eq_false (by show ¬ (m.ps.length : Int) - m.e < 0; omega)]
  simp
/-- the rows that are told -/
def toldRows (m : Mt) (ws : List Wd) : List (List Int) := (List.range 12).map fun o => notYes m fun x => ansW ws x (o : Nat)
theorem toldRows_at {m : Mt} {ws : List Wd} {i : Nat} (h : i < 12) : (toldRows m ws).getD i [] = notYes m fun x => ansW ws x (i : Nat) := by
  unfold toldRows
  rw [List.getD_eq_getElem?_getD, List.getElem?_map, List.getElem?_range h] <;> rfl
theorem hoursL_nil {m : Mt} {ws : List Wd} (h : hoursL m ["yes"] (ansF ws) = []) {i : Nat} (hi : i < 12) : (canB m ["yes"] fun x => (ansW ws x (i : Nat)).getD "no") = false := by
  refine Bool.eq_false_iff.mpr fun z => ?_
  have : Int.ofNat i ∈ hoursL m ["yes"] (ansF ws) := List.mem_map.mpr ⟨i, List.mem_filter.mpr ⟨List.mem_range.mpr hi, z⟩, rfl⟩
  rw [h] at this
  exact absurd this (by simp)
theorem told_barred {m : Mt} {ws : List Wd} (mok : m.ok) (h : hoursL m ["yes"] (ansF ws) = []) : barredB m ws (toldRows m ws) = true := by
  have l : (toldRows m ws).length = 12 := by unfold toldRows; rw [List.length_map, List.length_range]
  unfold barredB
  rw [l, decide_eq_true rfl, Bool.true_and, List.all_eq_true]
  intro i hi
  have hi := List.mem_range.mp hi
  rw [toldRows_at hi]
  exact bars_all mok (hoursL_nil h hi)
theorem told_at {m : Mt} {ws : List Wd} {h : Int} {hs : List Int} (e : hoursL m ["yes"] (ansF ws) = h :: hs) : atB m ws h = true := by
  unfold atB
  rw [e]
  exact decide_eq_true rfl
/-- one row emptied -/
theorem barred_empty {m : Mt} {ws : List Wd} {rs : List (List Int)} (mok : m.ok) (i : Nat) (h : i < rs.length) (e : rs.getD i [] = []) : barredB m ws rs = false := by
  unfold barredB
  rw [Bool.and_eq_false_iff]
  right
  refine List.all_eq_false.mpr ⟨i, List.mem_range.mpr h, ?_⟩
  rw [e, bars_nil mok]
  decide
theorem barred_long {m : Mt} {ws : List Wd} {rs : List (List Int)} (h : rs.length ≠ 12) : barredB m ws rs = false := by
  unfold barredB
  rw [decide_eq_false h]
  rfl
/-- truths as data -/
def bsD (bs : List Bool) : PyData := .list (bs.map PyData.bool)
theorem bool_eqv (a b : Bool) : PyData.eqv (.bool a) (.bool b) = decide (a = b) := by cases a <;> cases b <;> rfl
theorem bsD_eqv (xs ys : List Bool) : PyData.eqv (bsD xs) (bsD ys) = decide (xs = ys) := eqvAll_map bool_eqv xs ys
theorem bls_dp {K : PySem.W.Frag} {H : Hp} : ∀ bs : List Bool, DpAll K H (bs.map V.bl) (bs.map PyData.bool)
  | [] => .nil
  | b :: bs => .cons (.bl b) (bls_dp bs)
theorem bsD_dp {K : PySem.W.Frag} {H : Hp} {l : Addr} {bs : List Bool} (h : SqL K H l (bs.map V.bl)) : Dp K H (.ref l) (bsD bs) := .lst h (bls_dp bs)
theorem bls_lay : ∀ bs : List Bool, PyData.canLayAll0 (bs.map PyData.bool) = true
  | [] => rfl
  | b :: bs => by simp only [List.map_cons, PyData.canLayAll0, PyData.canLay0, bls_lay bs, Bool.and_self]
theorem bls_depth : ∀ bs : List Bool, PyData.depthAll (bs.map PyData.bool) = 0
  | [] => rfl
  | b :: bs => by
    simp only [List.map_cons, PyData.depthAll, PyData.depth, bls_depth bs]
    rfl
theorem bsD_sh (bs : List Bool) : SeqAt.shaped (bsD bs) = true := by
  unfold SeqAt.shaped bsD
  simp only [PyData.canLay0, bls_lay, PyData.depth, bls_depth]
  rfl
theorem words_of {K : PySem.W.Frag} {H : Hp} {p : Addr} {ts : List Addr} {ws us : List Wd} (hp : H p = some (.lst (ts.map V.ref))) (ht : TAt H ts us) (h80 : ws.length ≤ 80) (ok : ∀ x ∈ ws, x.ok) (al : Alike ws) (l : us.length ≤ ws.length) (m : ∀ x ∈ us, x ∈ ws) : Words K H p us :=
  ⟨⟨ts, sq_of hp, ht⟩, by omega, fun x hx => ok x (m x hx), alike_sub al m⟩
/-- lists of lists of numbers as data -/
def rsD (rs : List (List Int)) : PyData := .list (rs.map isD)
theorem rsD_eqv (xs ys : List (List Int)) : PyData.eqv (rsD xs) (rsD ys) = decide (xs = ys) := eqvAll_map isD_eqv xs ys
theorem rsD_dp {K : PySem.W.Frag} {H : Hp} {l : Addr} {ts : List Addr} {rs : List (List Int)} (h : SqL K H l (ts.map V.ref)) (hr : RowsIn K H ts rs) : Dp K H (.ref l) (rsD rs) := by
  refine .lst h ?_
  clear h
  induction hr with
  | nil => exact .nil
  | cons r t ih => exact .cons (isD_dp r.1) ih
theorem rsD_sh (rs : List (List Int)) : SeqAt.shaped (rsD rs) = true := by
  have lay : ∀ l : List (List Int), PyData.canLayAll0 (l.map isD) = true := by
    intro l
    induction l with
    | nil => rfl
    | cons x l ih =>
      have e : (isD x).canLay0 = true := by
        unfold isD
        simp only [PyData.canLay0, ints_lay]
      simp only [List.map_cons, PyData.canLayAll0, e, ih, Bool.and_self]
  have dep : ∀ l : List (List Int), PyData.depthAll (l.map isD) ≤ 1 := by
    intro l
    induction l with
    | nil => simp [PyData.depthAll]
    | cons x l ih =>
      have e : (isD x).depth ≤ 1 := by
        unfold isD
        simp only [PyData.depth, ints_depth]
        decide
      simp only [List.map_cons, PyData.depthAll]
      omega
  unfold SeqAt.shaped rsD
  have e1 : (PyData.list (rs.map isD)).canLay0 = true := by
    simp only [PyData.canLay0]
    exact lay rs
  have e2 : (PyData.list (rs.map isD)).depth ≤ 64 := by
    simp only [PyData.depth]
    have := dep rs
    omega
  rw [e1, decide_eq_true e2]
  rfl
/-- a list of rows, few and short -/
def RsOk (K : PySem.W.Frag) (H : Hp) (q : Addr) : Prop := ∃ (ts : List Addr) (rs : List (List Int)), SqL K H q (ts.map V.ref) ∧ RowsIn K H ts rs ∧ rs.length ≤ 100 ∧ ∀ x ∈ rs, x.length ≤ 900
theorem RsOk.k {K : PySem.W.Frag} {H H' : Hp} {q : Addr} (k : Kx H H') (h : RsOk K H q) : RsOk K H' q := by
  obtain ⟨ts, rs, a, b, c, d⟩ := h
  exact ⟨ts, rs, k.l a, b.k k, c, d⟩
theorem RowsIn.take {K : PySem.W.Frag} {H : Hp} : ∀ {ts : List Addr} {rs : List (List Int)} (n : Nat), RowsIn K H ts rs → RowsIn K H (ts.take n) (rs.take n)
  | _, _, 0, _ => by rw [List.take_zero, List.take_zero]; exact .nil
  | _, _, _ + 1, .nil => .nil
  | _, _, n + 1, .cons a p => .cons a (RowsIn.take n p)
theorem RowsIn.drop {K : PySem.W.Frag} {H : Hp} : ∀ {ts : List Addr} {rs : List (List Int)} (n : Nat), RowsIn K H ts rs → RowsIn K H (ts.drop n) (rs.drop n)
  | _, _, 0, h => h
  | _, _, _ + 1, .nil => .nil
  | _, _, n + 1, .cons _ p => RowsIn.drop n p
theorem RowsIn.app {K : PySem.W.Frag} {H : Hp} {ts us : List Addr} {rs ss : List (List Int)} (h : RowsIn K H ts rs) (g : RowsIn K H us ss) : RowsIn K H (ts ++ us) (rs ++ ss) := by
  induction h with
  | nil => exact g
  | cons a t ih => exact .cons a ih
theorem RowsIn.rev {K : PySem.W.Frag} {H : Hp} {ts : List Addr} {rs : List (List Int)} (h : RowsIn K H ts rs) : RowsIn K H ts.reverse rs.reverse := by
  induction h with
  | nil => exact .nil
  | cons a t ih =>
    rw [List.reverse_cons, List.reverse_cons]
    exact ih.app (.cons a .nil)
theorem RowsIn.rep {K : PySem.W.Frag} {H : Hp} {t : Addr} {r : List Int} (h : SqL K H t (r.map V.int)) (l : r.length ≤ 1000) : ∀ n : Nat, RowsIn K H (List.replicate n t) (List.replicate n r)
  | 0 => .nil
  | n + 1 => .cons ⟨h, l⟩ (RowsIn.rep h l n)
end CH
end

section
set_option Elab.async false
set_option linter.all false
set_option maxRecDepth 100000
set_option maxHeartbeats 4000000
/-! written data, laid in one step -/
namespace CH
open PySem PySem.Spec PyProof.Rows L2
/-- data as a program writes them -/
inductive Lt where
  | int (i : Int)
  | str (x : Str)
  | bl (b : Bool)
  | non
  | tup (l : List Lt)
  | lst (l : List Lt)
mutual
/-- such data stand at a value, all new or not -/
def Lt.at_ (H : Hp) : Lt → V → Prop
  | .int i, v => v = .int i
  | .str x, v => v = .str x
  | .bl b, v => v = .bl b
  | .non, v => v = .non
  | .tup l, v => ∃ a vs, v = .ref a ∧ H a = some (.tup vs) ∧ Lt.ats H l vs
  | .lst l, v => ∃ a vs, v = .ref a ∧ H a = some (.lst vs) ∧ Lt.ats H l vs
def Lt.ats (H : Hp) : List Lt → List V → Prop
  | [], vs => vs = []
  | d :: ds, vs => ∃ v ws, vs = v :: ws ∧ Lt.at_ H d v ∧ Lt.ats H ds ws
end
mutual
theorem Lt.at_k {H H' : Hp} (k : Kx H H') : ∀ (d : Lt) (v : V), Lt.at_ H d v → Lt.at_ H' d v
  | .int _, _, h => h
  | .str _, _, h => h
  | .bl _, _, h => h
  | .non, _, h => h
  | .tup l, v, h => by
    obtain ⟨a, vs, e, b, c⟩ := h
    exact ⟨a, vs, e, k.tup b, Lt.ats_k k l vs c⟩
  | .lst l, v, h => by
    obtain ⟨a, vs, e, b, c⟩ := h
    exact ⟨a, vs, e, k.lst b, Lt.ats_k k l vs c⟩
theorem Lt.ats_k {H H' : Hp} (k : Kx H H') : ∀ (ds : List Lt) (vs : List V), Lt.ats H ds vs → Lt.ats H' ds vs
  | [], _, h => h
  | d :: ds, vs, h => by
    obtain ⟨v, ws, e, a, b⟩ := h
    exact ⟨v, ws, e, Lt.at_k k d v a, Lt.ats_k k ds ws b⟩
end
theorem Lt.ats_len {H : Hp} : ∀ {ds : List Lt} {vs : List V}, Lt.ats H ds vs → vs.length = ds.length
  | [], _, h => by rw [show _ = [] from h] <;> rfl
  | d :: ds, vs, h => by
    obtain ⟨v, ws, rfl, a, b⟩ := h
    rw [List.length_cons, List.length_cons, Lt.ats_len b]
theorem Lt.ats_app {H : Hp} : ∀ {ds es : List Lt} {vs ws : List V}, Lt.ats H ds vs → Lt.ats H es ws → Lt.ats H (ds ++ es) (vs ++ ws)
  | [], _, _, _, h, g => by
    rw [show _ = [] from h]
    exact g
  | d :: ds, es, vs, ws, h, g => by
    obtain ⟨v, us, rfl, a, b⟩ := h
    exact ⟨v, us ++ ws, rfl, a, Lt.ats_app b g⟩
def tLit (d : Lt) : TE := fun _ H Q => ∀ (v : V) (H' : Hp), Kx H H' → Lt.at_ H' d v → Q v H'
def tLits (ds : List Lt) : TA := fun _ H Q => ∀ (vs : List V) (H' : Hp), Kx H H' → Lt.ats H' ds vs → Q vs H'
section
variable {X : Cx} {e : Expr} {es : List Expr} {t t' : TE} {ta ta' : TA} {pos : Pos}
theorem PE.weak (h : PE X e t) (k : ∀ σ H Q, t' σ H Q → t σ H Q) : PE X e t' := ⟨fun pins s σ H Q I q => h.run pins s σ H Q I (k σ H Q q)⟩
theorem PA.weak (h : PA X es ta) (k : ∀ σ H Q, ta' σ H Q → ta σ H Q) : PA X es ta' := ⟨fun pos pins s σ H Q I q => h.run pos pins s σ H Q I (k σ H Q q)⟩
theorem pl_int {i j} : PE X (.Constant (.int i) j pos) (tLit (.int i)) := PE.weak pe_int fun _ H Q q => q _ H (Kx.refl H) rfl
theorem pl_str {x j} : PE X (.Constant (.str x) j pos) (tLit (.str x)) := PE.weak pe_str fun _ H Q q => q _ H (Kx.refl H) rfl
theorem pl_bl {b j} : PE X (.Constant (.bool b) j pos) (tLit (.bl b)) := PE.weak pe_bl fun _ H Q q => q _ H (Kx.refl H) rfl
theorem pl_non {j} : PE X (.Constant .none j pos) (tLit .non) := PE.weak pe_non fun _ H Q q => q _ H (Kx.refl H) rfl
theorem pl_neg {i : Int} (h : PE X e (tLit (.int i))) : PE X (.UnaryOp .USub e pos) (tLit (.int (-i))) := PE.weak (pe_un un_neg h) fun _ H Q q v H' k a => ⟨i, a, q _ H' k rfl⟩
theorem pls_nil : PA X [] (tLits []) := PA.weak pa_nil fun _ H Q q => q _ H (Kx.refl H) rfl
theorem pls_cons {d : Lt} {ds : List Lt} (he : PE X e (tLit d)) (h : PA X es (tLits ds)) (hs : starEach (e :: es) X.env = (false, eval e X.env) :: starEach es X.env := by rfl) : PA X (e :: es) (tLits (d :: ds)) :=
  PA.weak (pa_cons he h hs) fun _ H Q q v H1 k1 a vs H2 k2 b => q _ H2 (k1.trans k2) ⟨v, vs, rfl, Lt.at_k k2 d v a, b⟩
theorem pl_tup {ds : List Lt} {x1} (h : PA X es (tLits ds)) (n : ds.length ≤ 1000 := by decide) : PE X (.Tuple es x1 pos) (tLit (.tup ds)) :=
  PE.weak (pe_tup h) fun _ H Q q vs H1 k1 b => ⟨by rw [Lt.ats_len b]; exact small80 (by omega), fun p np => q _ _ (k1.trans (Kx.new np)) ⟨p, vs, rfl, upd_same, Lt.ats_k (Kx.new np) ds vs b⟩⟩
theorem pl_lst {ds : List Lt} (h : PA X es (tLits ds)) (n : ds.length ≤ 1000 := by decide) : PE X (.List es pos) (tLit (.lst ds)) :=
  PE.weak (pe_lst h) fun _ H Q q vs H1 k1 b => ⟨by rw [Lt.ats_len b]; exact small80 (by omega), fun p np => q _ _ (k1.trans (Kx.new np)) ⟨p, vs, rfl, upd_same, Lt.ats_k (Kx.new np) ds vs b⟩⟩
end
/-! what they are -/
def Wd.lt (w : Wd) : Lt := .tup [.int w.c, .int w.h, .int w.p, .int w.o, .str w.a]
def wordsLt (ws : List Wd) : Lt := .lst (ws.map Wd.lt)
def isLt (ns : List Int) : List Lt := ns.map Lt.int
def Mt.lt (m : Mt) : Lt := .tup [.tup (isLt m.ps), .int m.e, .tup (isLt m.nds)]
theorem ints_at {H : Hp} : ∀ {ns : List Int} {vs : List V}, Lt.ats H (isLt ns) vs → vs = ns.map V.int
  | [], _, h => h
  | n :: ns, vs, h => by
    obtain ⟨v, ws, rfl, a, b⟩ := h
    rw [show v = .int n from a, ints_at b] <;> rfl
theorem intsL {H : Hp} {ns : List Int} {v : V} (h : Lt.at_ H (.lst (isLt ns)) v) : ∃ a, v = .ref a ∧ H a = some (.lst (ns.map V.int)) := by
  obtain ⟨a, vs, e, b, c⟩ := h
  rw [ints_at c] at b
  exact ⟨a, e, b⟩
theorem intsT {H : Hp} {ns : List Int} {v : V} (h : Lt.at_ H (.tup (isLt ns)) v) : ∃ a, v = .ref a ∧ H a = some (.tup (ns.map V.int)) := by
  obtain ⟨a, vs, e, b, c⟩ := h
  rw [ints_at c] at b
  exact ⟨a, e, b⟩
theorem wd_at {H : Hp} {w : Wd} {v : V} (h : Lt.at_ H w.lt v) : ∃ a, v = .ref a ∧ H a = some (.tup w.V) := by
  obtain ⟨a, vs, e, b, v1, w1, rfl, e1, v2, w2, rfl, e2, v3, w3, rfl, e3, v4, w4, rfl, e4, v5, w5, rfl, e5, e6⟩ := h
  rw [show v1 = .int w.c from e1, show v2 = .int w.h from e2, show v3 = .int w.p from e3, show v4 = .int w.o from e4, show v5 = .str w.a from e5, show w5 = [] from e6] at b
  exact ⟨a, e, b⟩
theorem wds_at {H : Hp} : ∀ {ws : List Wd} {vs : List V}, Lt.ats H (ws.map Wd.lt) vs → ∃ ts : List Addr, vs = ts.map V.ref ∧ TAt H ts ws
  | [], _, h => ⟨[], h, .nil⟩
  | w :: ws, vs, h => by
    obtain ⟨v, us, rfl, a, b⟩ := h
    obtain ⟨t, rfl, ht⟩ := wd_at a
    obtain ⟨ts, rfl, hts⟩ := wds_at b
    exact ⟨t :: ts, rfl, .cons ht hts⟩
theorem words_lt {H : Hp} {ws : List Wd} {v : V} (h : Lt.at_ H (wordsLt ws) v) : ∃ (l : Addr) (ts : List Addr), v = .ref l ∧ H l = some (.lst (ts.map V.ref)) ∧ TAt H ts ws := by
  obtain ⟨a, vs, e, b, c⟩ := h
  obtain ⟨ts, rfl, ht⟩ := wds_at c
  exact ⟨a, ts, e, b, ht⟩
theorem mt_at {K : PySem.W.Frag} {H : Hp} {m : Mt} {v : V} (h : Lt.at_ H m.lt v) : ∃ a, v = .ref a ∧ MAt K H a m := by
  obtain ⟨a, vs, e, b, v1, w1, rfl, e1, v2, w2, rfl, e2, v3, w3, rfl, e3, e6⟩ := h
  obtain ⟨p, rfl, hp⟩ := intsT e1
  obtain ⟨n, rfl, hn⟩ := intsT e3
  rw [show v2 = .int m.e from e2, show w3 = [] from e6] at b
  exact ⟨a, e, p, n, st_of b, st_of hp, st_of hn⟩
end CH
end

section
set_option Elab.async false
set_option linter.all false
set_option maxRecDepth 100000
set_option maxHeartbeats 4000000
namespace CH
open PySem PySem.Spec PyProof.Rows L2
/-- [list(x) for x in xs], xs lists of numbers: new ones -/
theorem lc_copies {K K1 : PySem.W.Frag} {a : Addr} {ts : List Addr} {rs : List (List Int)} {i : Nat} {vs : List Nat} {σ : L2.St} {H0 : Hp} {D : Addr} {Qd : Hp → Prop} (eK : K1 = K) (hl : SqL K H0 a (ts.map V.ref)) (hrs : RowsIn K H0 ts rs) (nD : H0 D = none) (h4 : rs.length ≤ 4000)
    (hw : ∀ x, wipe ((wipe σ vs).set i (some x)) vs = wipe σ vs) (hg : ∀ x : V, ((wipe σ vs).set i (some x))[i]? = some (some x))
    (hd : ∀ (H3 : Hp) (us : List Addr), Kx H0 H3 → H3 D = some (.lst (us.map V.ref)) → RowsAt H3 us rs → us.Nodup → (∀ u ∈ us, H0 u = none ∧ u ≠ D) → Qd H3) :
    ∃ W : Nat → Nat → Hp → Prop, (∃ m, W 0 m (upd H0 D (.lst []))) ∧ ∀ i1 m H, W i1 m H →
      ((Itl K a).stop i1 H ∧ Qd H) ∨ ((Itl K a).go i1 H ∧ ∃ Nx : Hp → Prop, (∀ H', Nx H' → ∃ m', m' < m ∧ W (i1 + 1) m' H') ∧ ∀ x H', (Itl K a).yld i1 H x H' → gName i x (wipe σ vs) H' fun σ2 H2 => wipe σ2 vs = wipe σ vs ∧ tYes σ2 H2 fun b H3 =>
        if b = true then tCB (rListOf K1) (tCons (tVar i) tNil) σ2 H3 fun y H4 => ∃ acc, H4 D = some (.lst acc) ∧ acc.length < sizeLine ∧ Nx (upd H4 D (.lst (acc ++ [y]))) else Nx H3) := by
  subst eK
  have len := paired_len hrs
  refine lc_list (K := K1) (a := a) (xs := ts.map V.ref) (fun j H2 => Kx H0 H2 ∧ ∃ us : List Addr, H2 D = some (.lst (us.map V.ref)) ∧ RowsAt H2 us (rs.take j) ∧ us.Nodup ∧ (∀ u ∈ us, H0 u = none ∧ u ≠ D) ∧ us.length = j)
      ⟨Kx.new nD, [], upd_same, .nil, List.nodup_nil, fun u h => absurd h (by simp), rfl⟩ (fun i H2 _ h => h.1.l hl) ?_ ?_
  · rintro j y H2 hj ⟨k2, us, hd2, hus, nus, fus, lus⟩
    obtain ⟨t, ht, rfl⟩ : ∃ t, ts[j]? = some t ∧ V.ref t = y := by
      rw [List.getElem?_map] at hj
      exact Option.map_eq_some_iff.mp hj
    obtain ⟨r, hr, hsq, hle⟩ := paired_at hrs ht
    have hjl : j < ts.length := (List.getElem?_eq_some_iff.mp ht).1
    refine ⟨hw _, yesT ?_⟩
    refine ⟨_, hg _, t, _, rfl, .inl (k2.l hsq), fun u nu => ?_⟩
    have k3 : Kx H2 (upd H2 u (.lst (r.map V.int))) := Kx.new nu
    have nuD : u ≠ D := fun z => by rw [z, hd2] at nu; cases nu
    refine ⟨_, k3.lst hd2, by rw [List.length_map]; exact lt80 (by omega), (k2.trans k3).mut nD, us ++ [u], by rw [upd_same, List.map_append] <;> rfl, ?_, ?_, fun y hy => ?_, by rw [List.length_append, lus] <;> rfl⟩
    · rw [List.take_add_one, hr]
      refine RowsAt.up (paired_snoc (hus.k k3) ⟨upd_same, hle⟩) fun y hy => ?_
      rcases List.mem_append.mp hy with hy | hy
      · exact (fus y hy).2
      · rw [List.mem_singleton.mp hy]
        exact nuD
    · refine List.nodup_append.mpr ⟨nus, List.nodup_cons.mpr ⟨by simp, List.nodup_nil⟩, fun x hx y hy e => ?_⟩
      rw [List.mem_singleton.mp hy] at e
      subst e
      obtain ⟨i, hi⟩ := List.mem_iff_getElem?.mp hx
      obtain ⟨r', _, h1, _⟩ := paired_at hus hi
      rw [nu] at h1
      cases h1
    · rcases List.mem_append.mp hy with hy | hy
      · exact fus y hy
      · rw [List.mem_singleton.mp hy]
        exact ⟨k2.f _ nu, nuD⟩
  · rintro H2 ⟨k2, us, hd2, hus, nus, fus, lus⟩
    rw [List.length_map, len, List.take_length] at hus
    exact hd H2 us k2 hd2 hus nus fus
end CH
end

section
set_option Elab.async false
set_option linter.all false
set_option maxRecDepth 100000
set_option maxHeartbeats 4000000
namespace CH
open PySem PySem.Spec PyProof.Rows L2
theorem sql_up {K : PySem.W.Frag} {H : Hp} {a p : Addr} {xs : List V} {o : HO} (h : SqL K H a xs) (n : a ≠ p) : SqL K (upd H p o) a xs := by
  rcases h with h | h
  · refine .inl ?_
    rcases h with h | ⟨ob, h⟩
    · exact .inl (by rw [upd_ne n]; exact h)
    · exact .inr ⟨ob, by rw [upd_ne n]; exact h⟩
  · exact .inr h
/-- a short list of numbers, that is not z -/
def IsOk (K : PySem.W.Frag) (H : Hp) (z q : Addr) : Prop := ∃ ns : List Int, SqL K H q (ns.map V.int) ∧ ns.length ≤ 900 ∧ q ≠ z
theorem IsOk.k {K : PySem.W.Frag} {H H' : Hp} {z q : Addr} (k : Kx H H') (h : IsOk K H z q) : IsOk K H' z q := by
  obtain ⟨ns, a, b, c⟩ := h
  exact ⟨ns, k.l a, b, c⟩
theorem IsOk.up {K : PySem.W.Frag} {H : Hp} {z q : Addr} {o : HO} (h : IsOk K H z q) : IsOk K (upd H z o) z q := by
  obtain ⟨ns, a, b, c⟩ := h
  exact ⟨ns, sql_up a c, b, c⟩
/-- a list of rows, few and short; z is none of them -/
def RsX (K : PySem.W.Frag) (H : Hp) (z q : Addr) : Prop := ∃ (ts : List Addr) (rs : List (List Int)), SqL K H q (ts.map V.ref) ∧ RowsIn K H ts rs ∧ rs.length ≤ 100 ∧ (∀ x ∈ rs, x.length ≤ 900) ∧ q ≠ z ∧ ∀ t ∈ ts, t ≠ z
theorem RsX.k {K : PySem.W.Frag} {H H' : Hp} {z q : Addr} (k : Kx H H') (h : RsX K H z q) : RsX K H' z q := by
  obtain ⟨ts, rs, a, b, c, d, e, f⟩ := h
  exact ⟨ts, rs, k.l a, b.k k, c, d, e, f⟩
theorem rowsIn_up {K : PySem.W.Frag} {H : Hp} {z : Addr} {o : HO} {ts : List Addr} {rs : List (List Int)} (h : RowsIn K H ts rs) (n : ∀ t ∈ ts, t ≠ z) : RowsIn K (upd H z o) ts rs := by
  induction h with
  | nil => exact .nil
  | @cons t r ts rs a b ih => exact .cons ⟨sql_up a.1 (n t List.mem_cons_self), a.2⟩ (ih fun t ht => n t (List.mem_cons_of_mem _ ht))
theorem RsX.up {K : PySem.W.Frag} {H : Hp} {z q : Addr} {o : HO} (h : RsX K H z q) : RsX K (upd H z o) z q := by
  obtain ⟨ts, rs, a, b, c, d, e, f⟩ := h
  exact ⟨ts, rs, sql_up a e, rowsIn_up b f, c, d, e, f⟩
/-- rows[:spot] + X + rows[spot + 1:], X a list of one row -/
theorem put_row {K K1 : PySem.W.Frag} {iR iS : Nat} {σ : L2.St} {H : Hp} {Q : VK} {X : TE} {R : Addr} {us : List Addr} {rs : List (List Int)} {sp : Nat} (e : K1 = K) (h1 : σ[iR]? = some (some (.ref R))) (h2 : σ[iS]? = some (some (.int (sp : Int))))
    (hR : H R = some (.lst (us.map V.ref))) (hus : RowsAt H us rs) (l50 : rs.length ≤ 50) (l8 : ∀ x ∈ rs, x.length ≤ 8) {z : Addr} {oz : HO} (hz : H z = some oz) (nz : ∀ t ∈ us, t ≠ z)
    (hX : ∀ H', Kx H H' → ∀ Q' : VK, (∀ (H1 : Hp) (xl q : Addr), Kx H' H1 → H1 xl = some (.lst [.ref q]) → IsOk K H1 z q → Q' (.ref xl) H1) → X σ H' Q') (q : ∀ (H' : Hp) (p : Addr), Kx H H' → H p = none → RsX K H' z p → Q (.ref p) H') :
    tOp rCat (tOp rCat (tSl (rSlL K1) (tVar iR) tNoPart (tPart (tVar iS))) X) (tSl (rSlL K1) (tVar iR) (tPart (tOp (rI0 fun i j => V.int (i + j)) (tVar iS) (tC (.int 1)))) tNoPart) σ H Q := by
  subst e
  have len := paired_len hus
  refine ⟨_, h1, _, h2, _, rfl, R, _, rfl, sq_of hR, fun p1 n1 => ?_⟩
  rw [cutV_take, ← List.map_take]
  have k1 : Kx H (upd H p1 (.lst ((us.take sp).map V.ref))) := Kx.new n1
  have hp1 : (upd H p1 (.lst ((us.take sp).map V.ref))) p1 = some (.lst ((us.take sp).map V.ref)) := upd_same
  generalize upd H p1 (.lst ((us.take sp).map V.ref)) = H1 at k1 hp1 ⊢
  refine hX H1 k1 _ fun H2 xl x k2 hxl hx => ?_
  refine ⟨p1, xl, _, _, rfl, rfl, k2.lst hp1, hxl, by rw [List.length_map, List.length_take]; show _ + 1 ≤ sizeLine; exact small80 (by omega), fun p3 n3 => ?_⟩
  rw [show (us.take sp).map V.ref ++ [V.ref x] = (us.take sp ++ [x]).map V.ref by rw [List.map_append] <;> rfl]
  have k3 : Kx H2 (upd H2 p3 (.lst ((us.take sp ++ [x]).map V.ref))) := Kx.new n3
  have hp3 : (upd H2 p3 (.lst ((us.take sp ++ [x]).map V.ref))) p3 = some (.lst ((us.take sp ++ [x]).map V.ref)) := upd_same
  generalize upd H2 p3 (.lst ((us.take sp ++ [x]).map V.ref)) = H3 at k3 hp3 ⊢
  have k03 := (k1.trans k2).trans k3
  refine ⟨_, h1, _, h2, _, _, rfl, rfl, _, rfl, R, _, rfl, sq_of (k03.lst hR), fun p4 n4 => ?_⟩
  rw [show ((sp : Int) + 1) = ((sp + 1 : Nat) : Int) from rfl, cutV_drop, ← List.map_drop]
  have k4 : Kx H3 (upd H3 p4 (.lst ((us.drop (sp + 1)).map V.ref))) := Kx.new n4
  have hp4 : (upd H3 p4 (.lst ((us.drop (sp + 1)).map V.ref))) p4 = some (.lst ((us.drop (sp + 1)).map V.ref)) := upd_same
  generalize upd H3 p4 (.lst ((us.drop (sp + 1)).map V.ref)) = H4 at k4 hp4 ⊢
  refine ⟨p3, p4, _, _, rfl, rfl, k4.lst hp3, hp4, by rw [List.length_map, List.length_map, List.length_append, List.length_take, List.length_drop]; show _ + 1 + _ ≤ sizeLine; exact small80 (by omega), fun p5 n5 => ?_⟩
  rw [← List.map_append]
  have k5 : Kx H4 (upd H4 p5 (.lst ((us.take sp ++ [x] ++ us.drop (sp + 1)).map V.ref))) := Kx.new n5
  have k05 := (k03.trans k4).trans k5
  obtain ⟨ns, hns, l900, nxz⟩ := hx
  have npz : p5 ≠ z := fun e => by rw [e] at n5; rw [(k03.trans k4).f _ n5] at hz; cases hz
  refine q _ p5 k05 ((k03.trans k4).f _ n5) ⟨_, rs.take sp ++ [ns] ++ rs.drop (sp + 1), sq_of upd_same, ?_, ?_, fun y hy => ?_, npz, fun t ht => ?_⟩
  · have hin := (RowsAt.in_ (K := K1) hus).k k05
    exact ((hin.take sp).app (.cons ⟨((k3.trans k4).trans k5).l hns, by omega⟩ .nil)).app (hin.drop (sp + 1))
  · rw [List.length_append, List.length_append, List.length_take, List.length_drop]
    show _ + 1 + _ ≤ 100
    omega
  · rcases List.mem_append.mp hy with hy | hy
    · rcases List.mem_append.mp hy with hy | hy
      · have := l8 y (List.mem_of_mem_take hy)
        omega
      · rw [List.mem_singleton.mp hy]
        exact l900
    · have := l8 y (List.mem_of_mem_drop hy)
      omega
  · rcases List.mem_append.mp ht with ht | ht
    · rcases List.mem_append.mp ht with ht | ht
      · exact nz t (List.mem_of_mem_take ht)
      · rw [List.mem_singleton.mp ht]
        exact nxz
    · exact nz t (List.mem_of_mem_drop ht)
end CH
end

section
set_option Elab.async false
set_option linter.all false
set_option maxRecDepth 100000
set_option maxHeartbeats 4000000
/-! min(xs) of tuples of numbers; xs[i] op= e -/
namespace CH
open PySem PySem.Spec PyProof.Rows L2
theorem headLt {y a : Int} {ys as : List Int} : (PySem.W.listLt (y :: ys) (a :: as) = true → y ≤ a) ∧ (PySem.W.listLt (y :: ys) (a :: as) = false → a ≤ y) := by
  have e : PySem.W.listLt (y :: ys) (a :: as) = if y = a then PySem.W.listLt ys as else decide (y < a) := rfl
  rw [e]
  by_cases h : y = a
  · subst h
    exact ⟨fun _ => Int.le_refl _, fun _ => Int.le_refl _⟩
  · rw [if_neg h]
    exact ⟨fun z => by have := of_decide_eq_true z; omega, fun z => by have := of_decide_eq_false z; omega⟩
/-- a row that is not empty, and its first number -/
def hd0 (r : List Int) : Int := r.headD 0
theorem minOf_head : ∀ (xs : List (PySem.W.Tup Int)) (x : PySem.W.Tup Int), (∀ y ∈ x :: xs, y.items ≠ []) → (PySem.W.minOf x xs) ∈ x :: xs ∧ ∀ y ∈ x :: xs, hd0 (PySem.W.minOf x xs).items ≤ hd0 y.items
  | [], x, _ => ⟨List.mem_cons_self, fun y hy => by rw [List.mem_singleton.mp hy]; exact Int.le_refl _⟩
  | z :: zs, x, hn => by
    have e : PySem.W.minOf x (z :: zs) = PySem.W.minOf (if PySem.W.DatumOrd.lt z x = true then z else x) zs := rfl
    rw [e]
    have nx := hn x List.mem_cons_self
    have nz := hn z (List.mem_cons_of_mem _ List.mem_cons_self)
    have key : ∀ b : Bool, PySem.W.DatumOrd.lt z x = b → (b = true → hd0 z.items ≤ hd0 x.items) ∧ (b = false → hd0 x.items ≤ hd0 z.items) := fun b hb => by
      have hb : PySem.W.listLt z.items x.items = b := hb
      cases ez : z.items with
      | nil => exact absurd ez nz
      | cons a as =>
        cases ex : x.items with
        | nil => exact absurd ex nx
        | cons c cs =>
          rw [ez, ex] at hb
          exact ⟨fun t => headLt.1 (hb.trans t), fun t => headLt.2 (hb.trans t)⟩
    by_cases c : PySem.W.DatumOrd.lt z x = true
    · rw [if_pos c]
      obtain ⟨m, le⟩ := minOf_head zs z fun y hy => hn y (List.mem_cons_of_mem _ hy)
      refine ⟨List.mem_cons_of_mem _ m, fun y hy => ?_⟩
      rcases List.mem_cons.mp hy with rfl | hy
      · exact Int.le_trans (le z List.mem_cons_self) ((key _ c).1 rfl)
      · exact le y hy
    · rw [if_neg c]
      have cf := Bool.eq_false_iff.mpr c
      obtain ⟨m, le⟩ := minOf_head zs x fun y hy => by
        rcases List.mem_cons.mp hy with rfl | hy
        · exact nx
        · exact hn y (List.mem_cons_of_mem _ (List.mem_cons_of_mem _ hy))
      refine ⟨?_, fun y hy => ?_⟩
      · rcases List.mem_cons.mp m with h | h
        · rw [h]
          exact List.mem_cons_self
        · exact List.mem_cons_of_mem _ (List.mem_cons_of_mem _ h)
      · rcases List.mem_cons.mp hy with rfl | hy
        · exact le y List.mem_cons_self
        rcases List.mem_cons.mp hy with rfl | hy
        · exact Int.le_trans (le x List.mem_cons_self) ((key _ cf).2 rfl)
        · exact le y (List.mem_cons_of_mem _ hy)
/-- min(xs), xs a list of tuples of numbers: one of them, none has a less first number -/
def rMinT (K : PySem.W.Frag) : List V → Hp → VK → Prop := fun vs H Q => ∃ (a : Addr) (ts : List Addr) (rs : List (List Int)), vs = [V.ref a] ∧ SqL K H a (ts.map V.ref) ∧ Paired (fun t (r : List Int) => SqT K H t (r.map V.int)) ts rs ∧ ts ≠ [] ∧ (∀ r ∈ rs, r ≠ []) ∧
  ∀ (i : Nat) (t : Addr) (r : List Int), ts[i]? = some t → rs[i]? = some r → (∀ r' ∈ rs, hd0 r ≤ hd0 r') → Q (.ref t) H
section
variable {X : Cx}
theorem tups_dp {K : PySem.W.Frag} {H : Hp} {ts : List Addr} {rs : List (List Int)} (h : Paired (fun t (r : List Int) => SqT K H t (r.map V.int)) ts rs) : DpAll K H (ts.map V.ref) ((rs.map PySem.W.Tup.mk).map PySem.W.Datum.toD) := by
  induction h with
  | nil => exact .nil
  | @cons t r ts rs a b ih => exact .cons (.tup a (ints_dp r)) ih
theorem cr_minT (hu : X.A.units + 64 < cLine) (hc : X.calm = true := by rfl) : CallR X (.builtin "min") (rMinT X.K) := by
  intro pins s σ H vs us Q I r h
  obtain ⟨a, ts, rs, rfl, hs, hp, hne, hrn, q⟩ := h
  obtain ⟨its, rv, hl, _⟩ := I.list hs
  rw [Vals.ref1 r]
  obtain ⟨as, hra⟩ := Dp.readsAll I _ _ _ (tups_dp hp) rv
  have len := paired_len hp
  have evs := refs_vals rv
  cases rs with
  | nil =>
    rw [List.length_nil] at len
    exact absurd (List.eq_nil_of_length_eq_zero len) hne
  | cons x xs =>
    refine PySem.W.min_list_datum (α := PySem.W.Tup Int) (x := ⟨x⟩) (xs := xs.map PySem.W.Tup.mk) (I.ok.hd hc) hl.isList ⟨as, by simpa using hra⟩ (by show X.A.units + 1 + 1 < cLine; omega) fun i v h' tk hv hh hk => ?_
    have hv2 : its[i]? = some v := by simpa using hv
    rw [evs, List.getElem?_map] at hv2
    obtain ⟨t, ht, rfl⟩ := Option.map_eq_some_iff.mp hv2
    obtain ⟨rr, hrr, hsq⟩ := paired_at hp ht
    obtain ⟨bs, hb⟩ := hh
    obtain ⟨cs, hcs⟩ := Dp.reads I (PySem.W.Datum.toD (PySem.W.Tup.mk rr)) (.ref t) (.ref t) (.tup hsq (ints_dp rr)) rfl
    have e1 : PySem.W.Datum.toD (PySem.W.minOf (PySem.W.Tup.mk x) (xs.map PySem.W.Tup.mk)) = PySem.W.Datum.toD (PySem.W.Tup.mk rr) := (reads_det (fun b o e _ => hk b o e) hcs hb).1
    have e2 : PySem.W.minOf (PySem.W.Tup.mk x) (xs.map PySem.W.Tup.mk) = PySem.W.Tup.mk rr := by
      have z := PySem.W.Datum.eqv (PySem.W.minOf (PySem.W.Tup.mk x) (xs.map PySem.W.Tup.mk)) (PySem.W.Tup.mk rr)
      rw [e1, PySem.W.Datum.eqv, decide_eq_true rfl] at z
      exact of_decide_eq_true z.symm
    obtain ⟨_, mn⟩ := minOf_head (xs.map PySem.W.Tup.mk) (PySem.W.Tup.mk x) fun y hy => by
      rw [← List.map_cons (f := PySem.W.Tup.mk)] at hy
      obtain ⟨r', hr', rfl⟩ := List.mem_map.mp hy
      exact hrn r' hr'
    rw [e2] at mn
    refine ⟨.ref t, H, I.kept hk, rfl, q i t rr ht hrr fun r' hr' => mn (PySem.W.Tup.mk r') ?_⟩
    rw [← List.map_cons (f := PySem.W.Tup.mk)]
    exact List.mem_map.mpr ⟨r', hr', rfl⟩
end
end CH
namespace CH
open PySem PySem.Spec PyProof.Rows L2
/-- xs[i], by values, i not negative -/
def rGetL (K : PySem.W.Frag) : V → V → Hp → VK → Prop := fun x y H Q => ∃ (p : Addr) (xs : List V) (j : Nat) (v : V), x = .ref p ∧ y = .int (j : Int) ∧ SqL K H p xs ∧ xs[j]? = some v ∧ Q v H
theorem pget_list {X : Cx} : PGet X (rGetL X.K) := by
  intro pins s σ H o i ov iv Q I ro ri h
  obtain ⟨p, xs, j, z, rfl, rfl, hq, he, q⟩ := h
  cases ro
  obtain ⟨t, rfl⟩ := ri
  obtain ⟨its, r, pl, hz⟩ := I.list hq
  obtain ⟨w, ew, rw'⟩ := r.get he
  have hl := r.length
  have hn := line63
  have hj : j < xs.length := (List.getElem?_eq_some_iff.mp he).1
  exact wpAny_getItem_list pl.isList (by omega) (by omega) (by simpa using ew) ⟨z, H, I, rw', q⟩
/-- a.f[i] op= e, a.f a list -/
theorem ps_augL {X : Cx} {o i e : Expr} {to ti te : TE} {tip : TIp} {op : Operator} {tpos pos : Pos} (ho : PE X o to) (hi : PE X i ti) (he : PE X e te) (hp : PIp X op tip)
    (ha : ∀ ov iv new, augStore i ov iv new = (do holding [new, ov, iv] (setItem ov iv new); release [new, ov, iv] []; pure .next) := by intros; rfl) : PS X (.AugAssign (.Subscript o i tpos) op e pos) (tAugS to ti te (rGetL X.K) tip rSetL) :=
  ps_augS ho hi pget_list he hp set_list ha
end CH
end

section
set_option Elab.async false
set_option linter.all false
set_option maxRecDepth 100000
set_option maxHeartbeats 4000000
/-! dicts locked, several at once -/
namespace CH
open PySem PySem.Spec PyProof.Rows L2
def lockN : Nat → TE → TE
  | 0, t => t
  | n + 1, t => tLockE (lockN n t)
theorem pe_lockN' {X : Cx} {e : Expr} {t : TE} (h : PE X e t) : ∀ n : Nat, PE X e (lockN n t)
  | 0 => h
  | n + 1 => pe_lock (pe_lockN' h n)
/-- as many locks as are wanted -/
theorem pe_lockN {X : Cx} {e : Expr} {t : TE} (h : PE X e t) : PE X e (fun σ H Q => ∃ n, lockN n t σ H Q) := ⟨fun pins s σ H Q I ⟨n, q⟩ => (pe_lockN' h n).run pins s σ H Q I q⟩
/-- the dicts of ds are locked in G, all else stands as in H -/
structure Lk (ds : List Addr) (H G : Hp) : Prop where
  out : ∀ b, b ∉ ds → G b = H b
  in_ : ∀ d ∈ ds, ∃ od u, H d = some u ∧ Mut (some u) ∧ G d = some (.frz od u)
/-- behind the locks: what stood stands, the rest is as in H' -/
structure Ul (ds : List Addr) (H H' U : Hp) : Prop where
  out : ∀ b, b ∉ ds → U b = H' b
  in_ : ∀ d ∈ ds, U d = H d
theorem lock_all {t : TE} {σ : L2.St} : ∀ (ds : List Addr) (H : Hp) (Q : VK), ds.Nodup → (∀ d ∈ ds, ∃ u, H d = some u ∧ Mut (some u)) →
    (∀ (G : Hp) (Q' : VK), Lk ds H G → (∀ v H', (∀ d ∈ ds, H' d = G d) → (∀ U, Ul ds H H' U → Q v U) → Q' v H') → t σ G Q') → lockN ds.length t σ H Q
  | [], H, Q, _, _, h => h H Q ⟨fun b _ => rfl, fun d hd => absurd hd (by simp)⟩ fun v H' _ q => q H' ⟨fun b _ => rfl, fun d hd => absurd hd (by simp)⟩
  | d :: ds, H, Q, nd, hd, h => by
    obtain ⟨n1, n2⟩ := List.nodup_cons.mp nd
    obtain ⟨u, hu, mu⟩ := hd d List.mem_cons_self
    have ne : ∀ e ∈ ds, e ≠ d := fun e he z => n1 (by rw [← z]; exact he)
    refine ⟨d, u, hu, mu, fun od => ?_⟩
    refine lock_all ds _ _ n2 (fun e he => ?_) (fun G Q' lk hq' => ?_)
    · obtain ⟨u', h1, h2⟩ := hd e (List.mem_cons_of_mem _ he)
      exact ⟨u', by rw [upd_ne (ne e he)]; exact h1, h2⟩
    · have hGd : G d = some (.frz od u) := by rw [lk.out d n1, upd_same]
      refine h G Q' ⟨fun b hb => ?_, fun e he => ?_⟩ fun v H' a q => hq' v H' (fun e he => a e (List.mem_cons_of_mem _ he)) fun U ul => ⟨?_, ?_⟩
      · have hb1 : b ≠ d := fun z => hb (by rw [z]; exact List.mem_cons_self)
        rw [lk.out b fun z => hb (List.mem_cons_of_mem _ z), upd_ne hb1]
      · rcases List.mem_cons.mp he with rfl | he'
        · exact ⟨od, u, hu, mu, hGd⟩
        · obtain ⟨od', u', h1, h2, h3⟩ := lk.in_ e he'
          rw [upd_ne (ne e he')] at h1
          exact ⟨od', u', h1, h2, h3⟩
      · rw [ul.out d n1, a d List.mem_cons_self, hGd]
      · refine q _ ⟨fun b hb => ?_, fun e he => ?_⟩
        · have hb1 : b ≠ d := fun z => hb (by rw [z]; exact List.mem_cons_self)
          rw [upd_ne hb1]
          exact ul.out b fun z => hb (List.mem_cons_of_mem _ z)
        · by_cases z : e = d
          · rw [z, upd_same, hu]
          · rw [upd_ne z]
            have he' : e ∈ ds := by
              rcases List.mem_cons.mp he with rfl | he'
              · exact absurd rfl z
              · exact he'
            rw [ul.in_ e he', upd_ne z]
theorem Ul.kx {ds : List Addr} {H G H' U : Hp} (lk : Lk ds H G) (k : Kx G H') (ul : Ul ds H H' U) : Kx H U := by
  refine ⟨fun b u hb n => ?_, fun P t => ?_, fun b hb => ?_⟩
  · by_cases z : b ∈ ds
    · rw [ul.in_ b z]
      exact hb
    · rw [ul.out b z]
      refine k.o b u ?_ n
      rw [lk.out b z]
      exact hb
  · have nP : P ∉ ds := fun z => by
      obtain ⟨ps, e, _⟩ := t
      obtain ⟨od, u, h1, h2, _⟩ := lk.in_ P z
      rw [e] at h1
      cases h1
      exact h2
    have tG : GxR.TabG G P := by
      obtain ⟨ps, e, t1⟩ := t
      exact ⟨ps, by rw [lk.out P nP]; exact e, t1⟩
    obtain ⟨qs, e2, t2⟩ := k.g P tG
    exact ⟨qs, by rw [ul.out P nP]; exact e2, t2⟩
  · by_cases z : b ∈ ds
    · rw [ul.in_ b z] at hb
      exact hb
    · rw [ul.out b z] at hb
      have := k.f b hb
      rw [lk.out b z] at this
      exact this
/-- all but these stays -/
structure Ke (S : List Addr) (H H' : Hp) : Prop where
  o : ∀ b u, b ∉ S → H b = some u → (∀ ps, u ≠ .tbl ps) → H' b = some u
  g : ∀ P, P ∉ S → GxR.TabG H P → GxR.TabG H' P
  f : ∀ b, H' b = none → H b = none
theorem Kx.ke {S : List Addr} {H H' : Hp} (k : Kx H H') : Ke S H H' := ⟨fun b u _ h n => k.o b u h n, fun P _ h => k.g P h, k.f⟩
theorem Ke.refl (S : List Addr) (H : Hp) : Ke S H H := (Kx.refl H).ke
theorem Ke.trans {S : List Addr} {H H1 H2 : Hp} (a : Ke S H H1) (b : Ke S H1 H2) : Ke S H H2 := ⟨fun c u n h m => b.o c u n (a.o c u n h m) m, fun P n h => b.g P n (a.g P n h), fun c h => a.f c (b.f c h)⟩
theorem Ke.mut {S : List Addr} {H H' : Hp} {p : Addr} {u : HO} (k : Ke S H H') (h : p ∈ S) : Ke S H (upd H' p u) := by
  have ne : ∀ b, b ∉ S → b ≠ p := fun b hb z => hb (by rw [z]; exact h)
  refine ⟨fun b v n e m => by rw [upd_ne (ne b n)]; exact k.o b v n e m, fun P n t => ?_, fun b e => ?_⟩
  · obtain ⟨qs, e2, t2⟩ := k.g P n t
    exact ⟨qs, by rw [upd_ne (ne P n)]; exact e2, t2⟩
  · by_cases hb : b = p
    · rw [hb, upd_same] at e
      cases e
    · rw [upd_ne hb] at e
      exact k.f b e
/-- a new one is changed -/
theorem Ke.fresh {S : List Addr} {H H' : Hp} {p : Addr} {u : HO} (k : Ke S H H') (h : H p = none) : Ke S H (upd H' p u) := by
  refine ⟨fun b v n e m => ?_, fun P n t => ?_, fun b e => ?_⟩
  · rw [upd_ne (ne_of_none e h)]
    exact k.o b v n e m
  · have hP : P ≠ p := by
      obtain ⟨ps, e, _⟩ := t
      exact ne_of_none e h
    obtain ⟨qs, e2, t2⟩ := k.g P n t
    exact ⟨qs, by rw [upd_ne hP]; exact e2, t2⟩
  · by_cases hb : b = p
    · rw [hb, upd_same] at e
      cases e
    · rw [upd_ne hb] at e
      exact k.f b e
/-- what is spared was not there ahead -/
theorem Ke.kx {S : List Addr} {H0 H H' : Hp} (k0 : Kx H0 H) (k : Ke S H H') (n : ∀ b ∈ S, H0 b = none) : Kx H0 H' := by
  refine ⟨fun b u h m => ?_, fun P t => ?_, fun b h => k0.f b (k.f b h)⟩
  · exact k.o b u (fun z => by rw [n b z] at h; cases h) (k0.o b u h m) m
  · have hP : P ∉ S := fun z => by
      obtain ⟨ps, e, _⟩ := t
      rw [n P z] at e
      cases e
    exact k.g P hP (k0.g P t)
end CH
end

section
set_option Elab.async false
set_option linter.all false
set_option maxRecDepth 100000
set_option maxHeartbeats 4000000
/-! sorted(set(xs)), xs a list of whole numbers -/
namespace CH
open PySem PySem.Spec PyProof.Rows L2
/-- a set with nothing in it -/
abbrev bareSet (w : World) : Obj := { cls := .type "set", dict := none, data := .set #[] 0 (.fresh 0 0 (!w.params.followText "set-order")) }
abbrev Shared.more (s : Shared) (o : Obj) : Shared := { s with heap := s.heap.push o }
section
variable {P : Program} {w : World} {A : Around} {E : Value → Shared → Prop} {s : Shared}
/-- what set(xs) leaves: a set of the members of ns at a, all else as it was -/
def SetsOf (w : World) (s : Shared) (ns : List Int) (s2 : Shared) : Prop := ∃ h' tk c, s2 = { s with heap := h', toks := tk } ∧ SetR w h' s.heap.objs.size (fun j => decide (j ∈ ns)) c ∧ c ≤ ns.length ∧ ∀ b o, s.heap.get? b = some o → h'.get? b = some o
theorem call_setL {l : Addr} {items : Array Value} (ns : List Int) {Q : Value → Shared → Prop} (hh : A.handled = none) (hl : s.heap.IsList l items) (hi : IntsAre items.toList ns) (hb : ns.length + 1 < scanBound)
    (h : ∀ s2, SetsOf w s ns s2 → Q (.ref s.heap.objs.size) s2) : wpAny (model P w) A (call (.type "set") [.ref l]) Q E s := by
  have sz : items.size = ns.length := by
    have := IntsAre.length hi
    rwa [Array.length_toList] at this
  have hlt : l < s.heap.objs.size := by
    obtain ⟨o, ho, _⟩ := hl
    exact Heap.lt_size ho
  obtain ⟨c, tl, hmro⟩ := F.called_set.mro
  have made := F.called_set.made
  have sub_ := F.called_set.sub
  have notT := F.called_set.notType
  have canC := F.called_set.canCreate
  have tc := F.typeCall_set_1 (.ref l)
  refine wpAny_call (codeAny_of_tree ?_)
  show wpAny _ _ (callAny (.type "set") _) _ _ _
  refine wpAny_pure ⟨Code.quiet_builtin _ (by decide +kernel), codeAny_builtin F.entry_type_call ?_⟩
  rw [Around.under_plain (weight_type_call_type "set" [.ref l] []) rfl]
  repeat (any_goals (first | assumption | wp_step))
  refine codeAny_mono (code_set_led1 (.ref l) (E := E) (Q₁ := fun v s1 => v = .ref s.heap.objs.size ∧ s1 = Shared.more s (bareSet w)) ⟨rfl, rfl⟩) fun r s1 hr => ?_
  match r, hr with
  | .error _, hr => exact hr
  | .ok (.ret v), hr =>
    obtain ⟨rfl, rfl⟩ := hr
    have at0 : (s.heap.push (bareSet w)).get? s.heap.objs.size = some (bareSet w) := Heap.get?_push_size _ rfl
    have ty0 : Shared.TypeIs (Shared.more s (bareSet w)) (.ref s.heap.objs.size) "set" := ⟨_, at0, rfl⟩
    have lk := F.called_set.init.lookup
    have bd := F.called_set.init.bind (.ref s.heap.objs.size)
    repeat (any_goals (first | assumption | wp_step))
    refine codeAny_mono (codeAny_call_builtin (R := wants (fun r2 s2 => r2 = .none ∧ SetsOf w s ns s2) E) F.called_set.init.plain F.entry_set_init (check_set_init_1 ty0 ?_)) fun r2 s2 hr2 => ?_
    · have hl1 : (s.heap.push (bareSet w)).IsList l items := hl.push _
      obtain ⟨ol, hol, hcl, nl, hdl⟩ := id hl1
      obtain ⟨ocls, odict, odata, oslots⟩ := ol
      simp only at hcl hdl
      subst hcl
      subst hdl
      have f1 := F.sub_list_set
      have f2 := F.sub_list_frozenset
      have f3 : (Value.type "list" == Value.type "dict") = false := by decide
      unfold Builtin.«set.__init__» noKeywords Builtin.Frozenset.updateFrom
      generalize hPI : pyIter = PI
      wp_walk
      subst hPI
      refine wpAny_pyIter_list hl1 ?_
      refine wpAny_bind (wpAny_runValue ?_)
      have hz : (s.heap.push (bareSet w)).objs.size = s.heap.objs.size + 1 := Heap.size_push ..
      have a1 : l ≠ (s.heap.push (bareSet w)).objs.size := by rw [hz]; exact Nat.ne_of_lt (Nat.lt_succ_of_lt hlt)
      have a2 : s.heap.objs.size ∉ [(s.heap.push (bareSet w)).objs.size, l] := fun z => by
        rw [hz] at z
        rcases List.mem_cons.mp z with z | z
        · exact Nat.ne_of_lt (Nat.lt_succ_self _) z
        · exact Nat.ne_of_gt hlt (List.mem_singleton.mp z)
      refine set_update_ints ((Walks.list (by simp [hh]) _ l a1 items).toS) s.heap.objs.size a2 ns sz hb (fun i v hv => ?val) (items.size - 0) 0 _ (by omega) (Nat.zero_le _) ⟨⟨_, Heap.get?_push_size _ rfl, rfl, rfl⟩, hl1.push _⟩ ?start ?fin
      case val =>
        have hi2 : i < ns.length := by
          rw [← sz]
          exact (Array.getElem?_eq_some_iff.mp hv).1
        obtain ⟨t, e⟩ := IntsAre.int_at hi i v (by rw [Array.getElem?_toList]; exact hv)
        refine ⟨ns[i], t, List.getElem?_eq_getElem hi2, ?_⟩
        rw [e, List.getD_eq_getElem?_getD, List.getElem?_eq_getElem hi2] <;> rfl
      case start =>
        exact ⟨0, Nat.le_refl 0, setR_new_at (Heap.get?_push_of_some _ at0)⟩
      case fin =>
        rintro ⟨h', g2, d', tk', os'⟩ c' mv hc' hS'
        have e1 : g2 = s.gens := mv.gens
        have e2 : d' = s.drawn := mv.drawn
        have e3 : os' = s.os := mv.os
        subst e1
        subst e2
        subst e3
        show wpAny _ _ _ _ _ _
        refine wpAny_pure ?_
        show wpAny _ _ (ret Value.none) _ _ _
        rw [sz] at hc'
        refine wpAny_pure ⟨rfl, h', tk', c', rfl, hS', hc', fun b o e => ?_⟩
        have hb0 := Heap.lt_size e
        refine mv.heap b o (fun z => ?_) (Heap.get?_push_of_some _ (Heap.get?_push_of_some _ e))
        rcases List.mem_cons.mp z with z | z
        · exact Nat.ne_of_lt hb0 z
        · have z := List.mem_singleton.mp z
          rw [hz] at z
          exact Nat.ne_of_lt (Nat.lt_succ_of_lt hb0) z
    · match r2, hr2 with
      | .error _, hr2 => exact hr2
      | .ok (.ret v2), hr2 =>
        obtain ⟨rfl, hs2⟩ := hr2
        repeat (any_goals (first | assumption | wp_step))
        exact h s2 hs2
      | .ok .next, hr2 => exact hr2.elim
      | .ok .brk, hr2 => exact hr2.elim
      | .ok .cont, hr2 => exact hr2.elim
end
end CH
end

section
set_option Elab.async false
set_option linter.all false
set_option maxRecDepth 100000
set_option maxHeartbeats 4000000
namespace CH
open PySem PySem.Spec PyProof.Rows L2
def tSortSet (K : PySem.W.Frag) (ta : TE) : TE := fun σ H Q => ta σ H fun x H1 => ∃ (l : Addr) (ns : List Int), x = .ref l ∧ SqL K H1 l (ns.map V.int) ∧ ns.length < 64 ∧ ∀ (out : List Int) (p : Addr), out.Pairwise (· < ·) → (∀ k : Int, k ∈ out ↔ k ∈ ns) → H1 p = none → Q (.ref p) (upd H1 p (.lst (out.map V.int)))
theorem pe_sortSet {X : Cx} {a : Expr} {ta : TE} {p p2 q pos : Pos} (hg : Gl X "sorted") (hm : X.mg "sorted" = none) (hbt : bootBuiltins "sorted" = some (.builtin "sorted")) (hg2 : Gl X "set") (hm2 : X.mg "set" = none) (ha : PE X a ta) (hc : X.calm = true := by rfl)
    (na : starEach [a] X.env = (false, eval a X.env) :: starEach [] X.env := by rfl) : PE X (.Call (.Name "sorted" p) [.Call (.Name "set" p2) [a] [] q] [] pos) (tSortSet X.K ta) := by
  refine ⟨fun pins s σ H Q I h => ?_⟩
  refine Call_ (ld_blt I hg hm hbt ?_)
  refine PyProof.Rows.callWith_builtin1 (PyProof.Rows.args_cons ?_ rfl) rfl rfl
  refine Call_ (ld_blt I hg2 hm2 boot_set ?_)
  refine PyProof.Rows.callWith_type1 (PyProof.Rows.args_cons (thn (ha.run pins s σ H _ I h) fun v s1 ⟨x, H1, I1, r1, q1⟩ => PyProof.Rows.args_nil ?_) na) na rfl
  obtain ⟨l, ns, rfl, hq, h64, q1⟩ := q1
  cases r1
  obtain ⟨its, r, pl, hz⟩ := I1.list hq
  refine call_setL ns (I1.ok.hd hc) pl.isList (by simpa using RZ.intsAre_vals r) (by unfold scanBound; omega) fun s2 hs2 => ?_
  obtain ⟨h', tk, n, rfl, R, hn, hk⟩ := hs2
  refine PyProof.Rows.args_nil ?_
  have I2 : Inv X pins σ H1 { s1 with heap := h', toks := tk } := I1.kept fun b o e => hk b o e
  have R2 : SetR X.w ({ s1 with heap := h', toks := tk } : Shared).heap s1.heap.objs.size (fun j => decide (j ∈ ns)) n := R
  generalize s1.heap.objs.size = ad at R2 ⊢
  generalize ({ s1 with heap := h', toks := tk } : Shared) = s2 at R2 I2 ⊢
  refine sorted_set R2 (I2.ok.hd hc) (by omega) fun s' p out c ms k g o hp hg hi hs hm hl => ?_
  have hlen : (ms.map V.int).length ≤ sizeLine := by rw [List.length_map, hl, sizeLine_eq]; omega
  have hnp : H1 p = none := I2.hok.fresh hp
  have J : Inv X pins σ (upd H1 p (.lst (ms.map V.int))) { s2 with heap := s'.heap, gens := s'.gens, drawn := s'.drawn, toks := s'.toks } :=
    I2.call (ch := []) (Un.laid k hp hnp) (I2.hok.laid k hp ⟨hlen, out.toList, c, vals_of_ints hi, hg⟩) (by rw [g]; exact I2.bare) (fun _ z => nomatch z)
  have e : s' = { s2 with heap := s'.heap, gens := s'.gens, drawn := s'.drawn, toks := s'.toks } := by
    cases s'
    cases s2
    cases o
    rfl
  rw [e]
  exact ⟨.ref p, _, J, rfl, q1 ms p hs (fun k => by rw [hm k]; exact decide_eq_true_iff) hnp⟩
end CH
end

section
set_option Elab.async false
set_option linter.all false
set_option maxRecDepth 100000
set_option maxHeartbeats 4000000
/-! several meetings -/
namespace CH
open PySem PySem.Spec PyProof.Rows L2
/-- an hour set before, or none -/
def oldV : Option Int → V
  | none => .non
  | some i => .int i
def jumpZ (x : Option Int) (h : Int) : Int := match x with
  | none => 0
  | some i => if h - i < 0 then -(h - i) else h - i
/-- lists of whole numbers at l -/
def LsAt (K : PySem.W.Frag) (H : Hp) (l : Addr) (css : List (List Int)) : Prop := ∃ rs : List Addr, SqL K H l (rs.map V.ref) ∧ Paired (fun r ns => SqL K H r (ns.map V.int)) rs css
/-- meetings at l -/
def MsAt (K : PySem.W.Frag) (H : Hp) (l : Addr) (ms : List Mt) : Prop := ∃ as : List Addr, SqL K H l (as.map V.ref) ∧ Paired (fun a m => MAt K H a m) as ms
theorem paired_imp {α β : Type} {F G : α → β → Prop} (h : ∀ a b, F a b → G a b) : ∀ {xs : List α} {ys : List β}, Paired F xs ys → Paired G xs ys
  | _, _, .nil => .nil
  | _, _, .cons a p => .cons (h _ _ a) (paired_imp h p)
theorem paired_imp_mem {α β : Type} {F G : α → β → Prop} : ∀ {xs : List α} {ys : List β}, (∀ a ∈ xs, ∀ b, F a b → G a b) → Paired F xs ys → Paired G xs ys
  | _, _, _, .nil => .nil
  | _, _, h, .cons a p => .cons (h _ (.head _) _ a) (paired_imp_mem (fun x hx => h x (.tail _ hx)) p)
theorem LsAt.k {K : PySem.W.Frag} {H H' : Hp} {l : Addr} {css : List (List Int)} (k : Kx H H') (h : LsAt K H l css) : LsAt K H' l css := by
  obtain ⟨rs, h1, h2⟩ := h
  exact ⟨rs, k.l h1, paired_imp (fun _ _ z => k.l z) h2⟩
theorem MsAt.k {K : PySem.W.Frag} {H H' : Hp} {l : Addr} {ms : List Mt} (k : Kx H H') (h : MsAt K H l ms) : MsAt K H' l ms := by
  obtain ⟨rs, h1, h2⟩ := h
  exact ⟨rs, k.l h1, paired_imp (fun _ _ z => z.k k) h2⟩
/-- meetings and hours as they are told to be tight -/
def tightB (cans : List (List Int)) (some_ spots : List Int) : Bool :=
  decide some_.Nodup && (some_.all fun x => decide (0 ≤ x ∧ x < (cans.length : Int))) && decide (dis spots < some_.length) && some_.all fun x => ((cans.getD x.toNat []).all fun h => decide (h ∈ spots))
/-- a table as it is told to be moved -/
def movedB (cans : List (List Int)) (olds : List (Option Int)) (spots prices rents : List Int) : Bool :=
  decide (spots.length = cans.length) && (decide (prices.length = cans.length) && (decide (rents.length = 12) && (decide spots.Nodup && ((rents.all fun x => decide (x ≤ 0)) && (((List.range cans.length).all fun i => decide (spots.getD i 0 ∈ cans.getD i [])) &&
  (((List.range cans.length).all fun i => (cans.getD i []).all fun h => decide (prices.getD i 0 + rents.getD h.toNat 0 ≤ jumpZ (olds.getD i none) h)) &&
  decide (((List.range cans.length).map fun i => jumpZ (olds.getD i none) (spots.getD i 0)).sum = prices.sum + rents.sum)))))))
/-- hours and jumps by them, as a dict -/
def jrow (r : List Int × Option Int) : List (Key × V) := r.1.map fun h => ((Sum.inl h : Key), V.int (jumpZ r.2 h))
def JsAt (H : Hp) (ds : List Addr) (rows : List (List Int × Option Int)) : Prop := Paired (fun d r => H d = some (.dK (jrow r)) ∧ r.1.Nodup ∧ r.1.length ≤ 12 ∧ ∀ h ∈ r.1, 0 ≤ h ∧ h ≤ 11) ds rows
theorem JsAt.k {H H' : Hp} {ds : List Addr} {rows : List (List Int × Option Int)} (k : Kx H H') (h : JsAt H ds rows) : JsAt H' ds rows := paired_imp (fun _ _ z => ⟨k.o _ _ z.1 (fun ps q => nomatch q), z.2⟩) h
theorem jrow_get {r : List Int × Option Int} {h : Int} : valV (jrow r) (Sum.inl h) = if h ∈ r.1 then some (.int (jumpZ r.2 h)) else none := by
  obtain ⟨C, x⟩ := r
  unfold jrow
  show valV (C.map fun h => ((Sum.inl h : Key), V.int (jumpZ x h))) (Sum.inl h) = if h ∈ C then some (.int (jumpZ x h)) else none
  induction C with
  | nil => rfl
  | cons a C ih =>
    by_cases e : a = h
    · subst e
      rw [List.map_cons, valV_pos (p := ((Sum.inl a : Key), V.int (jumpZ x a))) rfl, if_pos List.mem_cons_self]
    · rw [List.map_cons, valV_neg (p := ((Sum.inl a : Key), V.int (jumpZ x a))) (fun z => e (Sum.inl.inj z)), ih]
      by_cases z : h ∈ C
      · rw [if_pos z, if_pos (List.mem_cons_of_mem _ z)]
      · rw [if_neg z, if_neg fun q => by
          rcases List.mem_cons.mp q with q | q
          · exact e q.symm
          · exact z q]
/-- {key: value for h in hours}, the hours once each -/
theorem dc_ints {K : PySem.W.Frag} {a : Addr} {C : List Int} {f : Int → V} {s : Nat} {tv : TE} {vs : List Nat} {σ : L2.St} {H0 : Hp} {D : Addr} {Qd : Hp → Prop} (hl : SqL K H0 a (C.map V.int)) (nd : C.Nodup) (nD : H0 D = none) (h4 : C.length ≤ 4000)
    (hw : ∀ x, wipe ((wipe σ vs).set s (some x)) vs = wipe σ vs) (hg : ∀ x : V, ((wipe σ vs).set s (some x))[s]? = some (some x))
    (hs : ∀ (h : Int) (H3 : Hp), h ∈ C → Kx H0 H3 → ∀ Q : VK, (∀ H4, Kx H3 H4 → Q (f h) H4) → tv ((wipe σ vs).set s (some (.int h))) H3 Q)
    (hd : ∀ H3, Kx H0 H3 → H3 D = some (.dK (C.map fun h => ((Sum.inl h : Key), f h))) → Qd H3) :
    ∃ W : Nat → Nat → Hp → Prop, (∃ m, W 0 m (upd H0 D (.dK []))) ∧ ∀ i m H, W i m H →
      ((Itl K a).stop i H ∧ Qd H) ∨ ((Itl K a).go i H ∧ ∃ Nx : Hp → Prop, (∀ H', Nx H' → ∃ m', m' < m ∧ W (i + 1) m' H') ∧ ∀ x H', (Itl K a).yld i H x H' → gName s x (wipe σ vs) H' fun σ2 H2 => wipe σ2 vs = wipe σ vs ∧ tYes σ2 H2 fun b H3 =>
        if b = true then tVar s σ2 H3 fun y H4 => tv σ2 H4 fun z H5 => ∃ kvs k, y = kV k ∧ H5 D = some (.dK kvs) ∧ kvs.length < sizeLine ∧ Nx (upd H5 D (.dK (putK kvs k z))) else Nx H3) := by
  refine ⟨fun i m H => m = C.length - i ∧ i ≤ C.length ∧ Kx H0 H ∧ H D = some (.dK ((C.take i).map fun h => ((Sum.inl h : Key), f h))), ⟨C.length, rfl, Nat.zero_le _, Kx.new nD, upd_same⟩, ?_⟩
  rintro i m H ⟨rfl, hi, k3, hD⟩
  have qx := k3.l hl
  by_cases hlt : i < C.length
  · have hx : (C.map V.int)[i]? = some (.int C[i]) := by rw [List.getElem?_map, List.getElem?_eq_getElem hlt] <;> rfl
    refine .inr ⟨⟨_, _, qx, hx⟩, fun H' => Kx H0 H' ∧ H' D = some (.dK ((C.take (i + 1)).map fun h => ((Sum.inl h : Key), f h))), fun H' p' => ⟨C.length - (i + 1), by omega, rfl, hlt, p'.1, p'.2⟩, fun v H' y => ?_⟩
    obtain ⟨e, y⟩ := y
    subst e
    have ev : v = .int C[i] := Option.some.inj ((y _ qx).symm.trans hx)
    subst ev
    refine ⟨hw _, yesT ⟨_, hg _, ?_⟩⟩
    refine hs C[i] H' (List.getElem_mem hlt) k3 _ fun H4 k4 => ⟨_, Sum.inl C[i], rfl, k4.o _ _ hD (fun ps z => nomatch z), ?_, (k3.trans k4).mut nD, ?_⟩
    · rw [List.length_map, List.length_take]
      exact lt80 (by omega)
    · have hnew : valV ((C.take i).map fun h => ((Sum.inl h : Key), f h)) (Sum.inl C[i]) = none := by
        have nin : C[i] ∉ C.take i := fun z => by
          obtain ⟨j, hj⟩ := List.mem_iff_getElem?.mp z
          have hji : j < i := by
            have := (List.getElem?_eq_some_iff.mp hj).1
            rw [List.length_take] at this
            omega
          rw [List.getElem?_take_of_lt hji] at hj
          have ij := (List.getElem?_inj (i := j) (j := i) (by omega) nd).mp (hj.trans (List.getElem?_eq_getElem hlt).symm)
          omega
        generalize C.take i = B at nin
        induction B with
        | nil => rfl
        | cons b B ih =>
          rw [List.map_cons, valV_neg (p := ((Sum.inl b : Key), f b)) (fun z => nin (by rw [← Sum.inl.inj z]; exact List.mem_cons_self))]
          exact ih fun z => nin (List.mem_cons_of_mem _ z)
      rw [upd_same, putK_new _ hnew, List.take_add_one, List.getElem?_eq_getElem hlt, List.map_append] <;> rfl
  · have e : i = C.length := by omega
    subst e
    rw [List.take_length] at hD
    exact .inl ⟨⟨_, qx, by rw [List.length_map]; exact Nat.le_refl _⟩, hd H k3 hD⟩
theorem hoursL_nodup (m : Mt) (cs : List Str) (F : Int → Int → Str) : (hoursL m cs F).Nodup := by
  unfold hoursL
  refine List.Pairwise.map _ (fun a b h z => h (Int.ofNat.inj z)) (List.Nodup.sublist List.filter_sublist List.nodup_range)
/-- [.. for x, y in zip(xs, ys)], by an invariant -/
theorem lc_zipP {K : PySem.W.Frag} {a b : Addr} {xs ys : List V} {s1 s2 : Nat} {te : TE} {vs : List Nat} {σ : L2.St} {H0 : Hp} {D : Addr} {Qd : Hp → Prop} (Pv : Nat → Hp → Prop) (hl : xs.length = ys.length) (h0 : Pv 0 (upd H0 D (.lst []))) (ha : ∀ i H, Pv i H → SqL K H a xs ∧ SqL K H b ys)
    (hw : ∀ x y, wipe (((wipe σ vs).set s1 (some x)).set s2 (some y)) vs = wipe σ vs)
    (hs : ∀ (i : Nat) (x y : V) (T : Addr) (H3 : Hp), xs[i]? = some x → ys[i]? = some y → Pv i H3 → H3 T = none → te (((wipe σ vs).set s1 (some x)).set s2 (some y)) (upd H3 T (.tup [x, y])) fun z H4 => ∃ acc, H4 D = some (.lst acc) ∧ acc.length < sizeLine ∧ Pv (i + 1) (upd H4 D (.lst (acc ++ [z]))))
    (hd : ∀ H3, Pv xs.length H3 → Qd H3) :
    ∃ W : Nat → Nat → Hp → Prop, (∃ m, W 0 m (upd H0 D (.lst []))) ∧ ∀ i1 m H, W i1 m H →
      ((Itz K a b).stop i1 H ∧ Qd H) ∨ ((Itz K a b).go i1 H ∧ ∃ Nx : Hp → Prop, (∀ H', Nx H' → ∃ m', m' < m ∧ W (i1 + 1) m' H') ∧ ∀ x H', (Itz K a b).yld i1 H x H' → gTup K 2 (gCons (gName s1) (gCons (gName s2) gNil)) x (wipe σ vs) H' fun σ2 H2 => wipe σ2 vs = wipe σ vs ∧ tYes σ2 H2 fun b H3 =>
        if b = true then te σ2 H3 fun y H4 => ∃ acc, H4 D = some (.lst acc) ∧ acc.length < sizeLine ∧ Nx (upd H4 D (.lst (acc ++ [y]))) else Nx H3) := by
  refine ⟨fun i m H => m = xs.length - i ∧ i ≤ xs.length ∧ Pv i H, ⟨xs.length, rfl, Nat.zero_le _, h0⟩, ?_⟩
  rintro i m H ⟨rfl, hi, p⟩
  obtain ⟨qx, qy⟩ := ha i H p
  by_cases hlt : i < xs.length
  · have hx : xs[i]? = some xs[i] := List.getElem?_eq_getElem hlt
    have hlt2 : i < ys.length := by omega
    have hy : ys[i]? = some ys[i] := List.getElem?_eq_getElem hlt2
    refine .inr ⟨⟨xs, ys, _, _, qx, qy, hx, hy⟩, Pv (i + 1), fun H' p' => ⟨xs.length - (i + 1), by omega, rfl, hlt, p'⟩, fun v H' y => ?_⟩
    obtain ⟨T, x', y', rfl, hT, rfl, f1, f2⟩ := y
    have ht : (upd H T (.tup [x', y'])) T = some (.tup [x', y']) := upd_same
    exact ⟨T, _, rfl, st_of ht, rfl, _, _, rfl, _, _, rfl, rfl, hw x' y', yesT (hs i x' y' T H (f1 xs qx) (f2 ys qy) p hT)⟩
  · have e : i = xs.length := by omega
    subst e
    exact .inl ⟨⟨xs, ys, qx, qy, Or.inl (Nat.le_refl _)⟩, hd H p⟩
theorem zip_at {α β : Type} {xs : List α} {ys : List β} {i : Nat} {x : α} {y : β} (hx : xs[i]? = some x) (hy : ys[i]? = some y) : (xs.zip ys)[i]? = some (x, y) := by
  rw [List.getElem?_zip_eq_some]
  exact ⟨hx, hy⟩
end CH
end

section
set_option Elab.async false
set_option linter.all false
set_option maxRecDepth 100000
set_option maxHeartbeats 4000000
/-! meetings seated one behind another, by prices and rents -/
namespace CH
open PySem PySem.Spec PyProof.Rows L2
abbrev Rows := List (List Int × Option Int)
def canAt (rows : Rows) (i : Nat) : List Int := (rows.getD i ([], none)).1
def cost (rows : Rows) (i : Nat) (h : Int) : Int := jumpZ (rows.getD i ([], none)).2 h
def pr (ps : List Int) (i : Nat) : Int := ps.getD i 0
def rn (rs : List Int) (h : Int) : Int := rs.getD h.toNat 0
/-- rows as they are told -/
structure RowsOk (rows : Rows) : Prop where
  nd : ∀ i, (canAt rows i).Nodup
  in_ : ∀ i, ∀ h ∈ canAt rows i, 0 ≤ h ∧ h ≤ 11
/-- k meetings are seated -/
structure Seated (rows : Rows) (k : Nat) (hs : List (Option Int)) (ps rs : List Int) (hf : Int → Option Nat) : Prop where
  l1 : hs.length = rows.length
  l2 : ps.length = rows.length
  l3 : rs.length = 12
  at_ : ∀ i, i < k → ∃ h, hs[i]? = some (some h) ∧ h ∈ canAt rows i ∧ pr ps i + rn rs h = cost rows i h
  rest : ∀ i, k ≤ i → i < rows.length → hs[i]? = some none
  hold : ∀ h i, hf h = some i ↔ hs[i]? = some (some h)
  bound : ∀ i, i < rows.length → ∀ h ∈ canAt rows i, pr ps i + rn rs h ≤ cost rows i h
  neg : ∀ h : Int, rn rs h ≤ 0
  free : ∀ h : Int, 0 ≤ h → h ≤ 11 → hf h = none → rn rs h = 0
/-- the search for a seat: those who ask, hours reached and from whom -/
structure Search (rows : Rows) (k : Nat) (hs : List (Option Int)) (ps rs : List Int) (hf : Int → Option Nat) (as : List Nat) (rk : List (Int × Nat)) : Prop where
  st : Seated rows k hs ps rs hf
  kn : k < rows.length
  len : as.length = rk.length + 1
  head : as[0]? = some k
  held : ∀ (j : Nat) (p : Int × Nat), rk[j]? = some p → ∃ i, as[j + 1]? = some i ∧ hf p.1 = some i
  nd : (rk.map (·.1)).Nodup
  from_ : ∀ (j : Nat) (p : Int × Nat), rk[j]? = some p → ∃ q, q ≤ j ∧ as[q]? = some p.2 ∧ p.1 ∈ canAt rows p.2 ∧ pr ps p.2 + rn rs p.1 = cost rows p.2 p.1
theorem Search.lt {rows : Rows} {k : Nat} {hs : List (Option Int)} {ps rs : List Int} {hf : Int → Option Nat} {as : List Nat} {rk : List (Int × Nat)} (S : Search rows k hs ps rs hf as rk) : ∀ i ∈ as, i < rows.length := by
  intro i hi
  obtain ⟨j, hj⟩ := List.mem_iff_getElem?.mp hi
  cases j with
  | zero =>
    rw [S.head] at hj
    have := S.kn
    have e := Option.some.inj hj
    omega
  | succ j =>
    have hl := (List.getElem?_eq_some_iff.mp hj).1
    have hjr : j < rk.length := by have := S.len; omega
    obtain ⟨i', h1, h2⟩ := S.held j rk[j] (List.getElem?_eq_getElem hjr)
    rw [hj] at h1
    have e := Option.some.inj h1
    have h3 := (S.st.hold _ _).mp h2
    have := (List.getElem?_eq_some_iff.mp h3).1
    have := S.st.l1
    omega
theorem Search.asnd {rows : Rows} {k : Nat} {hs : List (Option Int)} {ps rs : List Int} {hf : Int → Option Nat} {as : List Nat} {rk : List (Int × Nat)} (S : Search rows k hs ps rs hf as rk) : as.Nodup := by
  refine List.pairwise_iff_getElem.mpr fun i j hi hj hij e => ?_
  cases j with
  | zero => omega
  | succ j =>
    have hjr : j < rk.length := by have := S.len; omega
    obtain ⟨b, h1, h2⟩ := S.held j rk[j] (List.getElem?_eq_getElem hjr)
    have hb : b = as[j + 1] := by
      rw [List.getElem?_eq_getElem hj] at h1
      exact (Option.some.inj h1).symm
    have h3 := (S.st.hold _ _).mp h2
    cases i with
    | zero =>
      have h0 : as[0] = k := by
        have := S.head
        rw [List.getElem?_eq_getElem hi] at this
        exact Option.some.inj this
      have h4 := S.st.rest k (Nat.le_refl _) S.kn
      rw [hb, ← e, h0, h4] at h3
      cases h3
    | succ i =>
      have hir : i < rk.length := by have := S.len; omega
      obtain ⟨a, g1, g2⟩ := S.held i rk[i] (List.getElem?_eq_getElem hir)
      have ha : a = as[i + 1] := by
        rw [List.getElem?_eq_getElem hi] at g1
        exact (Option.some.inj g1).symm
      have g3 := (S.st.hold _ _).mp g2
      rw [ha, e, ← hb, h3] at g3
      have e2 : (rk[i]).1 = (rk[j]).1 := (Option.some.inj (Option.some.inj g3)).symm
      have n1 : (rk.map (·.1))[i]? = (rk.map (·.1))[j]? := by
        rw [List.getElem?_map, List.getElem?_map, List.getElem?_eq_getElem hir, List.getElem?_eq_getElem hjr]
        exact congrArg some e2
      have := (List.getElem?_inj (by rw [List.length_map]; exact hir) S.nd).mp n1
      omega
/-- the holder of an hour reached asks, and the hour of one who asks and sits is reached -/
theorem Search.asks {rows : Rows} {k : Nat} {hs : List (Option Int)} {ps rs : List Int} {hf : Int → Option Nat} {as : List Nat} {rk : List (Int × Nat)} (S : Search rows k hs ps rs hf as rk) {i : Nat} {h : Int} (hh : hs[i]? = some (some h)) : i ∈ as ↔ h ∈ rk.map (·.1) := by
  constructor
  · intro hi
    obtain ⟨j, hj⟩ := List.mem_iff_getElem?.mp hi
    cases j with
    | zero =>
      rw [S.head] at hj
      have e := Option.some.inj hj
      have h4 := S.st.rest k (Nat.le_refl _) S.kn
      rw [e, hh] at h4
      cases h4
    | succ j =>
      have hl := (List.getElem?_eq_some_iff.mp hj).1
      have hjr : j < rk.length := by have := S.len; omega
      obtain ⟨b, h1, h2⟩ := S.held j rk[j] (List.getElem?_eq_getElem hjr)
      rw [hj] at h1
      have e := Option.some.inj h1
      have h3 := (S.st.hold _ _).mp h2
      rw [← e, hh] at h3
      rw [Option.some.inj (Option.some.inj h3)]
      exact List.mem_map.mpr ⟨_, List.getElem_mem hjr, rfl⟩
  · intro hm
    obtain ⟨p, hp, rfl⟩ := List.mem_map.mp hm
    obtain ⟨j, hj⟩ := List.mem_iff_getElem?.mp hp
    obtain ⟨b, h1, h2⟩ := S.held j p hj
    have h3 := (S.st.hold p.1 i).mpr hh
    rw [h2] at h3
    rw [← Option.some.inj h3]
    exact List.mem_of_getElem? h1
/-- a newcomer asks first -/
theorem Seated.start {rows : Rows} {k : Nat} {hs : List (Option Int)} {ps rs : List Int} {hf : Int → Option Nat} (S : Seated rows k hs ps rs hf) (hk : k < rows.length) : Search rows k hs ps rs hf [k] [] :=
  ⟨S, hk, rfl, rfl, fun j p h => by simp at h, List.nodup_nil, fun j p h => by simp at h⟩
/-- prices raised, rents lowered -/
theorem Search.raise {rows : Rows} {k : Nat} {hs : List (Option Int)} {ps rs ps' rs' : List Int} {hf : Int → Option Nat} {as : List Nat} {rk : List (Int × Nat)} {x : Int} (ok : RowsOk rows) (S : Search rows k hs ps rs hf as rk) (x0 : 0 ≤ x) (hx : ∀ i ∈ as, ∀ h ∈ canAt rows i, h ∉ rk.map (·.1) → x ≤ cost rows i h - pr ps i - rn rs h)
    (lp : ps'.length = ps.length) (lr : rs'.length = rs.length) (ep : ∀ i, i < rows.length → pr ps' i = pr ps i + if i ∈ as then x else 0) (er : ∀ h : Int, 0 ≤ h → rn rs' h = rn rs h - if h ∈ rk.map (·.1) then x else 0) (en : ∀ h : Int, h < 0 → rn rs' h ≤ 0) :
    Search rows k hs ps' rs' hf as rk := by
  have inH : ∀ p ∈ rk, 0 ≤ p.1 ∧ p.1 ≤ 11 := fun p hp => by
    obtain ⟨j, hj⟩ := List.mem_iff_getElem?.mp hp
    obtain ⟨q, _, _, h3, _⟩ := S.from_ j p hj
    exact ok.in_ _ _ h3
  refine ⟨⟨S.st.l1, lp.trans S.st.l2, lr.trans S.st.l3, fun i hi => ?_, S.st.rest, S.st.hold, fun i hi h hh => ?_, fun h => ?_, fun h h0 h1 hn => ?_⟩, S.kn, S.len, S.head, S.held, S.nd, fun j p hj => ?_⟩
  · obtain ⟨h, h1, h2, h3⟩ := S.st.at_ i hi
    refine ⟨h, h1, h2, ?_⟩
    have hb := ok.in_ i h h2
    have hil : i < rows.length := by have := S.kn; omega
    rw [ep i hil, er h hb.1]
    have e := S.asks h1
    by_cases z : i ∈ as
    · rw [if_pos z, if_pos (e.mp z)]
      omega
    · rw [if_neg z, if_neg fun q => z (e.mpr q)]
      omega
  · have hb := ok.in_ i h hh
    have b0 := S.st.bound i hi h hh
    rw [ep i hi, er h hb.1]
    by_cases z : i ∈ as
    · rw [if_pos z]
      by_cases z2 : h ∈ rk.map (·.1)
      · rw [if_pos z2]
        omega
      · rw [if_neg z2]
        have := hx i z h hh z2
        omega
    · rw [if_neg z]
      by_cases z2 : h ∈ rk.map (·.1)
      · rw [if_pos z2]
        omega
      · rw [if_neg z2]
        omega
  · by_cases h0 : 0 ≤ h
    · have := S.st.neg h
      rw [er h h0]
      by_cases z2 : h ∈ rk.map (·.1)
      · rw [if_pos z2]
        omega
      · rw [if_neg z2]
        omega
    · exact en h (by omega)
  · have hnr : h ∉ rk.map (·.1) := fun z => by
      obtain ⟨p, hp, rfl⟩ := List.mem_map.mp z
      obtain ⟨j, hj⟩ := List.mem_iff_getElem?.mp hp
      obtain ⟨b, _, h2⟩ := S.held j p hj
      rw [hn] at h2
      cases h2
    rw [er h h0, if_neg hnr, S.st.free h h0 h1 hn]
    rfl
  · obtain ⟨q, h1, h2, h3, h4⟩ := S.from_ j p hj
    refine ⟨q, h1, h2, h3, ?_⟩
    have hp := List.mem_of_getElem? hj
    have hil := S.lt p.2 (List.mem_of_getElem? h2)
    rw [ep p.2 hil, er p.1 (inH p hp).1, if_pos (List.mem_of_getElem? h2), if_pos (List.mem_map.mpr ⟨p, hp, rfl⟩)]
    omega
/-- one hour more is reached, its holder asks, too -/
theorem Search.more {rows : Rows} {k : Nat} {hs : List (Option Int)} {ps rs : List Int} {hf : Int → Option Nat} {as : List Nat} {rk : List (Int × Nat)} {h : Int} {m i : Nat} (S : Search rows k hs ps rs hf as rk) (hm : m ∈ as) (hc : h ∈ canAt rows m) (hn : h ∉ rk.map (·.1)) (ht : pr ps m + rn rs h = cost rows m h) (hh : hf h = some i) :
    Search rows k hs ps rs hf (as ++ [i]) (rk ++ [(h, m)]) := by
  obtain ⟨q, hq⟩ := List.mem_iff_getElem?.mp hm
  have hql := (List.getElem?_eq_some_iff.mp hq).1
  have sp : ∀ j p, (rk ++ [(h, m)])[j]? = some p → (j < rk.length ∧ rk[j]? = some p) ∨ (j = rk.length ∧ p = (h, m)) := fun j p hj => by
    by_cases z : j < rk.length
    · rw [List.getElem?_append_left z] at hj
      exact .inl ⟨z, hj⟩
    · rw [List.getElem?_append_right (by omega)] at hj
      have l := (List.getElem?_eq_some_iff.mp hj).1
      have e : j = rk.length := by
        rw [List.length_singleton] at l
        omega
      subst e
      rw [Nat.sub_self] at hj
      exact .inr ⟨rfl, (Option.some.inj hj).symm⟩
  refine ⟨S.st, S.kn, ?_, ?_, fun j p hj => ?_, ?_, fun j p hj => ?_⟩
  · rw [List.length_append, List.length_append, S.len] <;> rfl
  · rw [List.getElem?_append_left (by have := S.len; omega)]
    exact S.head
  · rcases sp j p hj with ⟨hl, hj⟩ | ⟨rfl, rfl⟩
    · obtain ⟨b, h1, h2⟩ := S.held j p hj
      exact ⟨b, by rw [List.getElem?_append_left (by have := S.len; omega)]; exact h1, h2⟩
    · exact ⟨i, by rw [List.getElem?_append_right (by have := S.len; omega), S.len, Nat.sub_self] <;> rfl, hh⟩
  · rw [List.map_append]
    refine List.nodup_append.mpr ⟨S.nd, List.nodup_cons.mpr ⟨by simp, List.nodup_nil⟩, fun a ha b hb e => ?_⟩
    rw [List.mem_singleton.mp hb] at e
    have e' : a = h := e
    rw [e'] at ha
    exact hn ha
  · rcases sp j p hj with ⟨hl, hj⟩ | ⟨rfl, rfl⟩
    · obtain ⟨q', h1, h2, h3, h4⟩ := S.from_ j p hj
      exact ⟨q', h1, by rw [List.getElem?_append_left (by have := S.len; omega)]; exact h2, h3, h4⟩
    · exact ⟨q, by have := S.len; omega, by rw [List.getElem?_append_left hql]; exact hq, hc, ht⟩
/-- on the way of handing on: cur is held by none; those who asked ahead of the j-th hour reached sit as ahead -/
structure Hand (rows : Rows) (k : Nat) (hs0 : List (Option Int)) (hf0 : Int → Option Nat) (ps rs : List Int) (as : List Nat) (rk : List (Int × Nat)) (hs : List (Option Int)) (hf : Int → Option Nat) (cur : Option Int) (j : Nat) : Prop where
  l1 : hs.length = rows.length
  rest : ∀ i : Nat, k < i → i < rows.length → hs[i]? = some none
  at_ : ∀ (i : Nat) (h : Int), hs[i]? = some (some h) → i ≤ k ∧ h ∈ canAt rows i ∧ pr ps i + rn rs h = cost rows i h
  none_ : ∀ i : Nat, i < k → ∃ h : Int, hs[i]? = some (some h)
  inj : ∀ (a b : Nat) (h : Int), hs[a]? = some (some h) → hs[b]? = some (some h) → a = b
  off : ∀ (h : Int) (i : Nat), cur = some h → hs[i]? ≠ some (some h)
  hold : ∀ (h : Int) (i : Nat), cur ≠ some h → (hf h = some i ↔ hs[i]? = some (some h))
  ahead : cur ≠ none → ∀ (q : Nat), q ≤ j → ∀ i : Nat, as[q]? = some i → hs[i]? = hs0[i]?
  stop : cur = none → ∃ h : Int, hs[k]? = some (some h)
  cur_ : ∀ h : Int, cur = some h → ∃ m : Nat, rk[j]? = some (h, m)
  dom : ∀ h : Int, hf h = none → hf0 h = none
/-- what the way leans on -/
structure Way (rows : Rows) (k : Nat) (hs0 : List (Option Int)) (ps rs : List Int) (as : List Nat) (rk : List (Int × Nat)) : Prop where
  kn : k < rows.length
  nd : as.Nodup
  keys : (rk.map (·.1)).Nodup
  le : ∀ i ∈ as, i ≤ k
  head : as[0]? = some k ∧ hs0[k]? = some none
  from_ : ∀ (j : Nat) (p : Int × Nat), rk[j]? = some p → ∃ q, q ≤ j ∧ as[q]? = some p.2 ∧ p.1 ∈ canAt rows p.2 ∧ pr ps p.2 + rn rs p.1 = cost rows p.2 p.1
  held : ∀ (q i : Nat), as[q + 1]? = some i → ∃ p : Int × Nat, rk[q]? = some p ∧ hs0[i]? = some (some p.1)
theorem Search.le {rows : Rows} {k : Nat} {hs : List (Option Int)} {ps rs : List Int} {hf : Int → Option Nat} {as : List Nat} {rk : List (Int × Nat)} (S : Search rows k hs ps rs hf as rk) {i : Nat} {h : Int} (e : hs[i]? = some (some h)) : i < k := by
  refine Nat.lt_of_not_le fun z => ?_
  have hl := (List.getElem?_eq_some_iff.mp e).1
  have l1 := S.st.l1
  have := S.st.rest i z (by omega)
  rw [e] at this
  cases this
/-- handing on begins -/
theorem Search.hand {rows : Rows} {k : Nat} {hs : List (Option Int)} {ps rs : List Int} {hf : Int → Option Nat} {as : List Nat} {rk : List (Int × Nat)} {h : Int} {m : Nat} (S : Search rows k hs ps rs hf as rk) (hh : hf h = none) :
    Hand rows k hs hf ps rs as (rk ++ [(h, m)]) hs hf (some h) rk.length := by
  refine ⟨S.st.l1, fun i h1 h2 => S.st.rest i (by omega) h2, fun i h' e => ?_, fun i hi => ?_, fun a b h' e1 e2 => ?_, fun h' i e z => ?_, fun h' i _ => S.st.hold h' i, fun _ q _ i _ => rfl, fun z => (by cases z), fun h' e => ?_, fun _ z => z⟩
  · have hik := S.le e
    obtain ⟨h2, e2, e3, e4⟩ := S.st.at_ i hik
    rw [e] at e2
    have := Option.some.inj (Option.some.inj e2)
    subst this
    exact ⟨by omega, e3, e4⟩
  · obtain ⟨h2, e2, _⟩ := S.st.at_ i hi
    exact ⟨h2, e2⟩
  · have := (S.st.hold h' a).mpr e1
    have h2 := (S.st.hold h' b).mpr e2
    rw [this] at h2
    exact Option.some.inj h2
  · have e' := Option.some.inj e
    subst e'
    have := (S.st.hold h i).mpr z
    rw [hh] at this
    cases this
  · have e' := Option.some.inj e
    subst e'
    exact ⟨m, by rw [List.getElem?_append_right (Nat.le_refl _), Nat.sub_self] <;> rfl⟩
theorem Search.way {rows : Rows} {k : Nat} {hs : List (Option Int)} {ps rs : List Int} {hf : Int → Option Nat} {as : List Nat} {rk : List (Int × Nat)} {h : Int} {m : Nat} (S : Search rows k hs ps rs hf as rk) (hm : m ∈ as) (hc : h ∈ canAt rows m) (hn : h ∉ rk.map (·.1)) (ht : pr ps m + rn rs h = cost rows m h) : Way rows k hs ps rs as (rk ++ [(h, m)]) := by
  obtain ⟨q, hq⟩ := List.mem_iff_getElem?.mp hm
  have hql := (List.getElem?_eq_some_iff.mp hq).1
  have at1 : ∀ {q i : Nat}, as[q + 1]? = some i → ∃ p : Int × Nat, rk[q]? = some p ∧ hs[i]? = some (some p.1) := fun {q i} hi => by
    have hl := (List.getElem?_eq_some_iff.mp hi).1
    have hjr : q < rk.length := by have := S.len; omega
    obtain ⟨b, h1, h2⟩ := S.held q rk[q] (List.getElem?_eq_getElem hjr)
    rw [hi] at h1
    rw [← Option.some.inj h1] at h2
    exact ⟨_, List.getElem?_eq_getElem hjr, (S.st.hold _ _).mp h2⟩
  refine ⟨S.kn, S.asnd, ?_, fun i hi => ?_, ⟨S.head, S.st.rest k (Nat.le_refl _) S.kn⟩, fun j p hj => ?_, fun q i hi => ?_⟩
  · rw [List.map_append]
    refine List.nodup_append.mpr ⟨S.nd, List.nodup_cons.mpr ⟨by simp, List.nodup_nil⟩, fun a ha b hb e => ?_⟩
    rw [List.mem_singleton.mp hb] at e
    have e' : a = h := e
    rw [e'] at ha
    exact hn ha
  · obtain ⟨j, hj⟩ := List.mem_iff_getElem?.mp hi
    cases j with
    | zero =>
      rw [S.head] at hj
      have := Option.some.inj hj
      omega
    | succ j =>
      obtain ⟨p, _, h2⟩ := at1 hj
      have := S.le h2
      omega
  · by_cases z : j < rk.length
    · rw [List.getElem?_append_left z] at hj
      exact S.from_ j p hj
    · rw [List.getElem?_append_right (by omega)] at hj
      have l := (List.getElem?_eq_some_iff.mp hj).1
      have e : j = rk.length := by
        rw [List.length_singleton] at l
        omega
      subst e
      rw [Nat.sub_self] at hj
      have e2 := (Option.some.inj hj).symm
      subst e2
      exact ⟨q, by have := S.len; omega, hq, hc, ht⟩
  · obtain ⟨p, h1, h2⟩ := at1 hi
    have hl := (List.getElem?_eq_some_iff.mp h1).1
    exact ⟨p, by rw [List.getElem?_append_left hl]; exact h1, h2⟩
/-- one is handed its hour -/
theorem Hand.step {rows : Rows} {k : Nat} {hs0 hs : List (Option Int)} {hf0 hf : Int → Option Nat} {ps rs : List Int} {as : List Nat} {rk : List (Int × Nat)} {h : Int} {m j : Nat} (W : Way rows k hs0 ps rs as rk) (S : Hand rows k hs0 hf0 ps rs as rk hs hf (some h) j) (hm : rk[j]? = some (h, m)) :
    m < rows.length ∧ ∃ (left : Option Int) (j' : Nat), hs[m]? = some left ∧ (left ≠ none → j' < j) ∧ Hand rows k hs0 hf0 ps rs as rk (hs.set m (some h)) (fun x => if x = h then some m else hf x) left j' := by
  obtain ⟨q, q1, q2, q3, q4⟩ := W.from_ j (h, m) hm
  have hmk := W.le m (List.mem_of_getElem? q2)
  have hml : m < rows.length := by have := W.kn; omega
  have hml2 : m < hs.length := by rw [S.l1]; exact hml
  have hah := S.ahead (by simp) q q1 m q2
  have off := fun i => S.off h i rfl
  have sm : (hs.set m (some h))[m]? = some (some h) := by rw [List.getElem?_set_self hml2]
  have sn : ∀ i : Nat, i ≠ m → (hs.set m (some h))[i]? = hs[i]? := fun i n => by rw [List.getElem?_set_ne (fun z => n z.symm)]
  -- what m had
  obtain ⟨left, hleft⟩ : ∃ left, hs[m]? = some left := ⟨_, List.getElem?_eq_getElem hml2⟩
  have key : ∀ j' : Nat, (left ≠ none → j' < j) → (left ≠ none → ∀ (q : Nat), q ≤ j' → ∀ i : Nat, as[q]? = some i → i ≠ m) → (left = none → m = k) → (∀ h' : Int, left = some h' → ∃ m' : Nat, rk[j']? = some (h', m')) →
      Hand rows k hs0 hf0 ps rs as rk (hs.set m (some h)) (fun x => if x = h then some m else hf x) left j' := fun j' lj ne nk cu => by
    refine ⟨by rw [List.length_set]; exact S.l1, fun i h1 h2 => ?_, fun i x e => ?_, fun i hi => ?_, fun a b x e1 e2 => ?_, fun x i e z => ?_, fun x i nx => ?_, fun nl q' hq' i hi => ?_, fun z => ?_, cu, fun x hx => ?_⟩
    · rw [sn i (by omega)]
      exact S.rest i h1 h2
    · by_cases z : i = m
      · subst z
        rw [sm] at e
        have := Option.some.inj (Option.some.inj e)
        subst this
        exact ⟨hmk, q3, q4⟩
      · rw [sn i z] at e
        exact S.at_ i x e
    · by_cases z : i = m
      · subst z
        exact ⟨h, sm⟩
      · rw [sn i z]
        exact S.none_ i hi
    · by_cases za : a = m
      · by_cases zb : b = m
        · rw [za, zb]
        · rw [za, sm] at e1
          have := Option.some.inj (Option.some.inj e1)
          subst this
          rw [sn b zb] at e2
          exact absurd e2 (off b)
      · by_cases zb : b = m
        · rw [zb, sm] at e2
          have := Option.some.inj (Option.some.inj e2)
          subst this
          rw [sn a za] at e1
          exact absurd e1 (off a)
        · rw [sn a za] at e1
          rw [sn b zb] at e2
          exact S.inj a b x e1 e2
    · subst e
      by_cases zi : i = m
      · subst zi
        rw [sm] at z
        have := Option.some.inj (Option.some.inj z)
        subst this
        exact off i hleft
      · rw [sn i zi] at z
        exact zi (S.inj i m x z hleft)
    · show (if x = h then some m else hf x) = some i ↔ _
      by_cases zx : x = h
      · subst zx
        rw [if_pos rfl]
        constructor
        · intro z
          rw [← Option.some.inj z]
          exact sm
        · intro z
          by_cases zi : i = m
          · rw [zi]
          · rw [sn i zi] at z
            exact absurd z (off i)
      · rw [if_neg zx]
        have o := S.hold x i (fun z => zx (Option.some.inj z).symm)
        by_cases zi : i = m
        · subst zi
          rw [o, sm, hleft]
          constructor
          · intro z
            exact absurd (Option.some.inj z) nx
          · intro z
            exact absurd (Option.some.inj (Option.some.inj z)).symm zx
        · rw [o, sn i zi]
    · have nm := ne nl q' hq' i hi
      rw [sn i nm]
      exact S.ahead (by simp) q' (by have := lj nl; omega) i hi
    · rw [← nk z]
      exact ⟨h, sm⟩
    · have hx : (if x = h then some m else hf x) = none := hx
      by_cases zx : x = h
      · rw [if_pos zx] at hx
        cases hx
      · rw [if_neg zx] at hx
        exact S.dom x hx
  refine ⟨hml, left, ?_⟩
  cases q with
  | zero =>
    have e : m = k := by
      rw [W.head.1] at q2
      exact (Option.some.inj q2).symm
    have el : left = none := by
      rw [hleft, e, W.head.2] at hah
      exact Option.some.inj hah
    exact ⟨0, hleft, fun z => absurd el z, key 0 (fun z => absurd el z) (fun z => absurd el z) (fun _ => e) (fun h' z => by rw [el] at z; cases z)⟩
  | succ q' =>
    obtain ⟨p, p1, p2⟩ := W.held q' m q2
    have el : left = some p.1 := by
      rw [hleft, p2] at hah
      exact Option.some.inj hah
    refine ⟨q', hleft, fun _ => by omega, key q' (fun _ => by omega) (fun _ q2' hq2 i hi e => ?_) (fun z => by rw [el] at z; cases z) (fun h' z => ?_)⟩
    · rw [e] at hi
      have hl2 := (List.getElem?_eq_some_iff.mp hi).1
      have := (List.getElem?_inj hl2 W.nd).mp (hi.trans q2.symm)
      omega
    · rw [el] at z
      rw [← Option.some.inj z]
      exact ⟨p.2, p1⟩
/-- all are handed theirs: one more is seated -/
theorem Hand.done {rows : Rows} {k : Nat} {hs0 hs : List (Option Int)} {hf0 hf : Int → Option Nat} {ps rs : List Int} {as : List Nat} {rk : List (Int × Nat)} {j : Nat} (S0 : Seated rows k hs0 ps rs hf0) (S : Hand rows k hs0 hf0 ps rs as rk hs hf none j) : Seated rows (k + 1) hs ps rs hf := by
  refine ⟨S.l1, S0.l2, S0.l3, fun i hi => ?_, fun i h1 h2 => S.rest i (by omega) h2, fun h i => S.hold h i (by simp), S0.bound, S0.neg, fun h h0 h1 hn => S0.free h h0 h1 (S.dom h hn)⟩
  obtain ⟨h, e⟩ : ∃ h : Int, hs[i]? = some (some h) := by
    by_cases z : i = k
    · rw [z]
      exact S.stop rfl
    · exact S.none_ i (by omega)
  obtain ⟨_, e2, e3⟩ := S.at_ i h e
  exact ⟨h, e, e2, e3⟩
end CH
end

section
set_option Elab.async false
set_option linter.all false
set_option maxRecDepth 100000
set_option maxHeartbeats 4000000
/-! kin: a word more, needed ones fewer, enough fewer -/
namespace CH
open PySem PySem.Spec PyProof.Rows L2
theorem come_mono {ps : List Int} {cs : List Str} {f g : Int → Str} (h : ∀ x, f x ∈ cs → g x ∈ cs) : ∀ x ∈ comeL ps cs f, x ∈ comeL ps cs g := fun x hx => by
  obtain ⟨a, b⟩ := List.mem_filter.mp hx
  exact List.mem_filter.mpr ⟨a, decide_eq_true (h x (of_decide_eq_true b))⟩
theorem canB_mono {m n : Mt} {cs : List Str} {f g : Int → Str} (hp : n.ps = m.ps) (he : n.e ≤ m.e) (hn : ∀ x ∈ n.nds, x ∈ m.nds) (h : ∀ x, f x ∈ cs → g x ∈ cs) (z : canB m cs f = true) : canB n cs g = true := by
  unfold canB at z ⊢
  rw [Bool.and_eq_true] at z ⊢
  obtain ⟨z1, z2⟩ := z
  have z1 := of_decide_eq_true z1
  rw [hp]
  have l : (comeL m.ps cs f).length ≤ (comeL m.ps cs g).length := filter_le (fun x e => decide_eq_true (h x (of_decide_eq_true e))) _
  refine ⟨decide_eq_true (by omega), List.all_eq_true.mpr fun x hx => decide_eq_true (come_mono h x ?_)⟩
  exact of_decide_eq_true (List.all_eq_true.mp z2 x (hn x hx))
theorem hoursL_at {m n : Mt} {cs : List Str} {F G : Int → Int → Str} {o : Int} (hp : n.ps = m.ps) (he : n.e ≤ m.e) (hn : ∀ x ∈ n.nds, x ∈ m.nds) (h : ∀ x, F x o ∈ cs → G x o ∈ cs) (z : o ∈ hoursL m cs F) : o ∈ hoursL n cs G := by
  obtain ⟨i, hi, rfl⟩ := List.mem_map.mp z
  obtain ⟨a, b⟩ := List.mem_filter.mp hi
  exact List.mem_map.mpr ⟨i, List.mem_filter.mpr ⟨a, canB_mono hp he hn h b⟩, rfl⟩
theorem hoursL_congr {m : Mt} {cs ds : List Str} {F G : Int → Int → Str} (h : ∀ x o, decide (F x o ∈ cs) = decide (G x o ∈ ds)) : hoursL m cs F = hoursL m ds G := by
  unfold hoursL canB
  have e : ∀ o : Int, comeL m.ps cs (fun x => F x o) = comeL m.ps ds fun x => G x o := fun o => comeL_congr fun x => h x o
  congr 1
  refine List.filter_congr fun o _ => ?_
  rw [e]
/-- a word behind all others counts -/
theorem ansF_late {ws : List Wd} {w : Wd} (h : ∀ x ∈ ws, x.c < w.c) (p o : Int) : ansF (ws ++ [w]) p o = if w.p = p ∧ w.o = o then w.a else ansF ws p o := by
  unfold ansF ansW
  rw [bestW_snoc]
  have pl : pleO (bestW ws p o) w := by
    have b := bestW_is p o ws
    cases e : bestW ws p o with
    | none => exact trivial
    | some x =>
      rw [e] at b
      exact .inl (h x b.m)
  by_cases g : w.p = p ∧ w.o = o
  · rw [if_pos ⟨g.1, g.2, pl⟩, if_pos g]
    rfl
  · rw [if_neg fun z => g ⟨z.1, z.2.1⟩, if_neg g]
/-- a word before all others counts where there is none -/
theorem ansF_early {ws : List Wd} {w : Wd} (h : ∀ x ∈ ws, w.c < x.c) (k : ∃ x ∈ ws, x.p = w.p ∧ x.o = w.o) : ansF (ws ++ [w]) = ansF ws := by
  funext p o
  unfold ansF ansW
  rw [bestW_snoc]
  by_cases g : w.p = p ∧ w.o = o
  · obtain ⟨x, hx, e1, e2⟩ := k
    have b := bestW_is p o ws
    cases e : bestW ws p o with
    | none =>
      rw [e] at b
      exact absurd ⟨e1.trans g.1, e2.trans g.2⟩ (b x hx)
    | some y =>
      rw [e] at b
      have := h y b.m
      rw [if_neg fun z => ?_]
      have := z.2.2
      unfold pleO ple at this
      dsimp only at this
      omega
  · rw [if_neg fun z => g ⟨z.1, z.2.1⟩]
theorem alike_snoc {ws : List Wd} {w : Wd} (al : Alike ws) (h : ∀ x ∈ ws, x.c ≠ w.c) : Alike (ws ++ [w]) := by
  intro a ha b hb e1 e2
  rcases List.mem_append.mp ha with ha | ha
  · rcases List.mem_append.mp hb with hb | hb
    · exact al a ha b hb e1 e2
    · rw [List.mem_singleton.mp hb] at e1
      exact absurd e1 (h a ha)
  · rcases List.mem_append.mp hb with hb | hb
    · rw [List.mem_singleton.mp ha] at e1
      exact absurd e1.symm (h b hb)
    · rw [List.mem_singleton.mp ha, List.mem_singleton.mp hb]
theorem late_yes {m : Mt} {ws : List Wd} {c h p o : Int} (lt : ∀ x ∈ ws, x.c < c) : ((hoursL m ["yes"] (ansF ws)).all fun x => decide (x ∈ hoursL m ["yes"] (ansF (ws ++ [⟨c, h, p, o, "yes"⟩])))) = true :=
  List.all_eq_true.mpr fun y hy => decide_eq_true (hoursL_at rfl (Int.le_refl _) (fun _ z => z) (fun x z => by rw [ansF_late lt]; split <;> first | exact z | exact List.mem_cons_self) hy)
theorem late_no {m : Mt} {ws : List Wd} {c h p o : Int} (lt : ∀ x ∈ ws, x.c < c) : ((hoursL m ["yes"] (ansF (ws ++ [⟨c, h, p, o, "no"⟩]))).all fun x => decide (x ∈ hoursL m ["yes"] (ansF ws))) = true :=
  List.all_eq_true.mpr fun y hy => decide_eq_true (hoursL_at rfl (Int.le_refl _) (fun _ z => z) (fun x z => by rw [ansF_late lt] at z; split at z <;> first | exact z | exact absurd (show ("no" : Str) ∈ (["yes"] : List Str) from z) (by decide)) hy)
theorem late_one {m : Mt} {ws : List Wd} {c h p o : Int} (lt : ∀ x ∈ ws, x.c < c) : ((hoursL m ["yes"] (ansF (ws ++ [⟨c, h, p, o, "yes"⟩]))).all fun x => decide (x ∈ hoursL m ["yes"] (ansF ws) ++ [o])) = true :=
  List.all_eq_true.mpr fun y hy => decide_eq_true (by
    by_cases e : o = y
    · rw [e]
      exact List.mem_append.mpr (.inr List.mem_cons_self)
    · refine List.mem_append.mpr (.inl (hoursL_at rfl (Int.le_refl _) (fun _ z => z) (fun x z => ?_) hy))
      rw [ansF_late lt, if_neg fun z => e z.2] at z
      exact z)
theorem late_maybe {m : Mt} {ws : List Wd} {c h p o : Int} (lt : ∀ x ∈ ws, x.c < c) : hoursL m ["yes"] (ansF (ws ++ [⟨c, h, p, o, "maybe"⟩])) = hoursL m ["yes"] (ansF (ws ++ [⟨c, h, p, o, "no"⟩])) := hoursL_congr fun x y => by
  rw [ansF_late lt, ansF_late lt]
  dsimp only
  split
  · decide
  · rfl
theorem late_sure {m : Mt} {ws : List Wd} {c h p o : Int} (lt : ∀ x ∈ ws, x.c < c) : hoursL m ["yes", "maybe"] (ansF (ws ++ [⟨c, h, p, o, "maybe"⟩])) = hoursL m ["yes", "maybe"] (ansF (ws ++ [⟨c, h, p, o, "yes"⟩])) := hoursL_congr fun x y => by
  rw [ansF_late lt, ansF_late lt]
  dsimp only
  split
  · decide
  · rfl
end CH
end

section
set_option Elab.async false
set_option linter.all false
set_option maxRecDepth 100000
set_option maxHeartbeats 4000000
/-! all seated: told as moved -/
namespace CH
open PySem PySem.Spec PyProof.Rows L2
theorem perm_sum {xs ys : List Int} (p : xs.Perm ys) : xs.sum = ys.sum := by
  induction p with
  | nil => rfl
  | cons x _ ih => rw [List.sum_cons, List.sum_cons, ih]
  | swap x y l =>
    rw [List.sum_cons, List.sum_cons, List.sum_cons, List.sum_cons]
    omega
  | trans _ _ a b => exact a.trans b
/-- what is nothing off zs sums over zs as over all -/
theorem sum_off {f : Int → Int} : ∀ (L zs : List Int), L.Nodup → zs.Nodup → (∀ z ∈ zs, z ∈ L) → (∀ h ∈ L, h ∉ zs → f h = 0) → (zs.map f).sum = (L.map f).sum
  | [], zs, _, _, s, _ => by
    cases zs with
    | nil => rfl
    | cons z zs => exact absurd (s z List.mem_cons_self) (by simp)
  | h :: L, zs, nL, nz, s, o => by
    obtain ⟨n1, n2⟩ := List.nodup_cons.mp nL
    rw [List.map_cons, List.sum_cons]
    by_cases hh : h ∈ zs
    · have p := List.perm_cons_erase hh
      have e := perm_sum (p.map f)
      rw [e, List.map_cons, List.sum_cons]
      have nz2 := (p.nodup_iff.mp nz)
      obtain ⟨m1, m2⟩ := List.nodup_cons.mp nz2
      rw [sum_off L (zs.erase h) n2 m2 (fun z hz => ?_) (fun g hg ng => ?_)]
      · rcases List.mem_cons.mp (s z (List.mem_of_mem_erase hz)) with rfl | q
        · exact absurd hz m1
        · exact q
      · refine o g (List.mem_cons_of_mem _ hg) fun q => ng ?_
        rcases List.mem_cons.mp (p.mem_iff.mp q) with rfl | q
        · exact absurd hg n1
        · exact q
    · rw [o h List.mem_cons_self hh, sum_off L zs n2 nz (fun z hz => ?_) (fun g hg ng => o g (List.mem_cons_of_mem _ hg) ng)]
      · omega
      · rcases List.mem_cons.mp (s z hz) with rfl | q
        · exact absurd hz hh
        · exact q
theorem sum_add {α : Type} {f g : α → Int} : ∀ l : List α, (l.map fun x => f x + g x).sum = (l.map f).sum + (l.map g).sum
  | [] => rfl
  | x :: l => by
    rw [List.map_cons, List.sum_cons, List.map_cons, List.sum_cons, List.map_cons, List.sum_cons, sum_add l]
    omega
theorem list_getD (rs : List Int) : rs = (List.range rs.length).map fun i => rs.getD i 0 := by
  refine List.ext_getElem (by simp) fun i h1 h2 => ?_
  rw [List.getElem_map, List.getElem_range, List.getD_eq_getElem?_getD, List.getElem?_eq_getElem h1] <;> rfl
/-- all are seated -/
structure AllAt (rows : Rows) (zs ps rs : List Int) : Prop where
  l1 : zs.length = rows.length
  l2 : ps.length = rows.length
  l3 : rs.length = 12
  nd : zs.Nodup
  in_ : ∀ i, i < rows.length → zs.getD i 0 ∈ canAt rows i
  neg : ∀ x ∈ rs, x ≤ 0
  le : ∀ i, i < rows.length → ∀ h ∈ canAt rows i, pr ps i + rn rs h ≤ cost rows i h
  sum : ((List.range rows.length).map fun i => cost rows i (zs.getD i 0)).sum = ps.sum + rs.sum
theorem Seated.all {rows : Rows} {hs : List (Option Int)} {ps rs : List Int} {hf : Int → Option Nat} (ok : RowsOk rows) (S : Seated rows rows.length hs ps rs hf) : ∃ zs : List Int, hs = zs.map some ∧ AllAt rows zs ps rs := by
  obtain ⟨zs, rfl⟩ : ∃ zs : List Int, hs = zs.map some := by
    refine ⟨hs.map fun x => x.getD 0, ?_⟩
    rw [List.map_map]
    refine List.ext_getElem (by simp) fun i h1 h2 => ?_
    rw [List.getElem_map]
    obtain ⟨h, e, _⟩ := S.at_ i (by rw [← S.l1]; exact h1)
    rw [List.getElem?_eq_getElem h1] at e
    rw [Option.some.inj e]
    rfl
  have l1 : zs.length = rows.length := by have := S.l1; rwa [List.length_map] at this
  have gi : ∀ i, i < rows.length → zs[i]? = some (zs.getD i 0) := fun i hi => by
    rw [List.getD_eq_getElem?_getD, List.getElem?_eq_getElem (by omega)] <;> rfl
  have ga : ∀ i, i < rows.length → zs.getD i 0 ∈ canAt rows i ∧ pr ps i + rn rs (zs.getD i 0) = cost rows i (zs.getD i 0) := fun i hi => by
    obtain ⟨h, e, h1, h2⟩ := S.at_ i hi
    rw [List.getElem?_map, gi i hi] at e
    have e : zs.getD i 0 = h := Option.some.inj (Option.some.inj e)
    rw [e]
    exact ⟨h1, h2⟩
  have hold : ∀ (i : Nat) (h : Int), zs[i]? = some h → hf h = some i := fun i h e => (S.hold h i).mpr (by rw [List.getElem?_map, e] <;> rfl)
  have nd : zs.Nodup := by
    refine List.pairwise_iff_getElem.mpr fun i j hi hj hij e => ?_
    have a := hold i _ (List.getElem?_eq_getElem hi)
    have b := hold j _ (List.getElem?_eq_getElem hj)
    rw [e, b] at a
    have := Option.some.inj a
    omega
  refine ⟨zs, rfl, l1, S.l2, S.l3, nd, fun i hi => (ga i hi).1, fun x hx => ?_, S.bound, ?_⟩
  · obtain ⟨i, hi⟩ := List.mem_iff_getElem?.mp hx
    have := S.neg (i : Int)
    unfold rn at this
    rw [show ((i : Int)).toNat = i from rfl, List.getD_eq_getElem?_getD, hi] at this
    exact this
  · have e1 : ((List.range rows.length).map fun i => cost rows i (zs.getD i 0)) = (List.range rows.length).map fun i => ps.getD i 0 + rn rs (zs.getD i 0) := List.map_congr_left fun i hi => ((ga i (List.mem_range.mp hi)).2).symm
    rw [e1, sum_add]
    have e2 : ((List.range rows.length).map fun i => ps.getD i 0) = ps := by
      have := list_getD ps
      rw [S.l2] at this
      exact this.symm
    have e3 : ((List.range rows.length).map fun i => rn rs (zs.getD i 0)) = zs.map (rn rs) := by
      have := list_getD zs
      rw [l1] at this
      conv => rhs; rw [this]
      rw [List.map_map]
      rfl
    have e4 : rs = ((List.range 12).map fun (i : Nat) => (i : Int)).map (rn rs) := by
      have := list_getD rs
      rw [S.l3] at this
      rw [List.map_map]
      exact this
    rw [e2, e3]
    congr 1
    conv => rhs; rw [e4]
    refine sum_off _ zs ?_ nd (fun z hz => ?_) fun h hh nh => ?_
    · refine List.Pairwise.map _ (fun a b h z => h (Int.ofNat.inj z)) List.nodup_range
    · obtain ⟨i, hi⟩ := List.mem_iff_getElem?.mp hz
      have hl := (List.getElem?_eq_some_iff.mp hi).1
      have g := (ga i (by omega)).1
      rw [List.getD_eq_getElem?_getD, hi] at g
      have b := ok.in_ i z g
      exact List.mem_map.mpr ⟨z.toNat, List.mem_range.mpr (by omega), by show ((z.toNat : Nat) : Int) = z; omega⟩
    · obtain ⟨n, hn, rfl⟩ := List.mem_map.mp hh
      have hn := List.mem_range.mp hn
      refine S.free _ (by omega) (by omega) ?_
      cases e : hf (n : Int) with
      | none => rfl
      | some i =>
        have z := (S.hold _ i).mp e
        rw [List.getElem?_map] at z
        obtain ⟨y, hy, ey⟩ := Option.map_eq_some_iff.mp z
        have ey : y = (n : Int) := Option.some.inj ey
        rw [ey] at hy
        exact absurd (List.mem_of_getElem? hy) nh
end CH
namespace CH
open PySem PySem.Spec PyProof.Rows L2
theorem jumpZ_nn (x : Option Int) (h : Int) : 0 ≤ jumpZ x h := by
  cases x with
  | none => exact Int.le_refl 0
  | some i =>
    unfold jumpZ
    dsimp only
    split <;> omega
theorem rep0 (n i : Nat) : (List.replicate n (0 : Int)).getD i 0 = 0 := by
  rw [List.getD_eq_getElem?_getD, List.getElem?_replicate]
  split <;> rfl
/-- nobody is seated -/
theorem Seated.zero (rows : Rows) : Seated rows 0 (List.replicate rows.length none) (List.replicate rows.length 0) (List.replicate 12 0) (fun _ => none) := by
  refine ⟨List.length_replicate, List.length_replicate, List.length_replicate, fun i hi => absurd hi (by omega), fun i _ hi => by rw [List.getElem?_replicate, if_pos hi], fun h i => ⟨fun z => (by cases z), fun z => ?_⟩, fun i hi h hh => ?_, fun h => ?_, fun h _ _ _ => rep0 _ _⟩
  · rw [List.getElem?_replicate] at z
    split at z
    · cases Option.some.inj z
    · cases z
  · have e1 : pr (List.replicate rows.length 0) i = 0 := rep0 _ _
    have e2 : rn (List.replicate 12 0) h = 0 := rep0 _ _
    rw [e1, e2]
    exact jumpZ_nn _ _
  · have e2 : rn (List.replicate 12 0) h = 0 := rep0 _ _
    rw [e2]
    exact Int.le_refl 0
end CH
end

section
set_option Elab.async false
set_option linter.all false
set_option maxRecDepth 100000
set_option maxHeartbeats 4000000
/-! tables against each other: the least sum -/
namespace CH
open PySem PySem.Spec PyProof.Rows L2
/-- what is below nothing off zs sums over zs above all -/
theorem sum_off_le {f : Int → Int} : ∀ (L zs : List Int), zs.Nodup → L.Nodup → (∀ z ∈ zs, z ∈ L) → (∀ h ∈ L, f h ≤ 0) → (L.map f).sum ≤ (zs.map f).sum
  | [], zs, _, _, s, _ => by
    cases zs with
    | nil => exact Int.le_refl _
    | cons z zs => exact absurd (s z List.mem_cons_self) (by simp)
  | h :: L, zs, nz, nL, s, o => by
    obtain ⟨n1, n2⟩ := List.nodup_cons.mp nL
    rw [List.map_cons, List.sum_cons]
    have ol : ∀ h ∈ L, f h ≤ 0 := fun g hg => o g (List.mem_cons_of_mem _ hg)
    by_cases hh : h ∈ zs
    · have p := List.perm_cons_erase hh
      have e := perm_sum (p.map f)
      rw [e, List.map_cons, List.sum_cons]
      obtain ⟨m1, m2⟩ := List.nodup_cons.mp (p.nodup_iff.mp nz)
      have := sum_off_le L (zs.erase h) m2 n2 (fun z hz => by
        rcases List.mem_cons.mp (s z (List.mem_of_mem_erase hz)) with rfl | q
        · exact absurd hz m1
        · exact q) ol
      omega
    · have := sum_off_le L zs nz n2 (fun z hz => by
        rcases List.mem_cons.mp (s z hz) with rfl | q
        · exact absurd hz hh
        · exact q) ol
      have := o h List.mem_cons_self
      omega
/-- all have hours of their own -/
structure Sit (rows : Rows) (zs : List Int) : Prop where
  l1 : zs.length = rows.length
  nd : zs.Nodup
  in_ : ∀ i, i < rows.length → zs.getD i 0 ∈ canAt rows i
def costs (rows : Rows) (zs : List Int) : Int := ((List.range rows.length).map fun i => cost rows i (zs.getD i 0)).sum
theorem AllAt.sit {rows : Rows} {zs ps rs : List Int} (A : AllAt rows zs ps rs) : Sit rows zs := ⟨A.l1, A.nd, A.in_⟩
theorem sum_le {α : Type} {f g : α → Int} : ∀ l : List α, (∀ x ∈ l, f x ≤ g x) → (l.map f).sum ≤ (l.map g).sum
  | [], _ => Int.le_refl _
  | x :: l, h => by
    rw [List.map_cons, List.sum_cons, List.map_cons, List.sum_cons]
    have := h x List.mem_cons_self
    have := sum_le l fun y hy => h y (List.mem_cons_of_mem _ hy)
    omega
theorem range12_nd : ((List.range 12).map fun (n : Nat) => (n : Int)).Nodup := List.Pairwise.map _ (fun a b h z => h (Int.ofNat.inj z)) List.nodup_range
theorem Sit.bnd {rows : Rows} {ys : List Int} (ok : RowsOk rows) (S : Sit rows ys) : ∀ y ∈ ys, y ∈ (List.range 12).map fun (n : Nat) => (n : Int) := fun y hy => by
  obtain ⟨i, hi⟩ := List.mem_iff_getElem?.mp hy
  have hl := (List.getElem?_eq_some_iff.mp hi).1
  have g := S.in_ i (by rw [← S.l1]; exact hl)
  rw [List.getD_eq_getElem?_getD, hi] at g
  have b := ok.in_ i y g
  exact List.mem_map.mpr ⟨y.toNat, List.mem_range.mpr (by omega), by show ((y.toNat : Nat) : Int) = y; omega⟩
/-- prices and rents are at most what any way costs -/
theorem AllAt.least {rows : Rows} {zs ps rs ys : List Int} (ok : RowsOk rows) (A : AllAt rows zs ps rs) (S : Sit rows ys) : ps.sum + rs.sum ≤ costs rows ys := by
  have e1 := sum_le (f := fun i => ps.getD i 0 + rn rs (ys.getD i 0)) (g := fun i => cost rows i (ys.getD i 0)) (List.range rows.length) fun i hi => A.le i (List.mem_range.mp hi) _ (S.in_ i (List.mem_range.mp hi))
  rw [sum_add] at e1
  have e2 : ((List.range rows.length).map fun i => ps.getD i 0) = ps := by
    have := list_getD ps
    rw [A.l2] at this
    exact this.symm
  have e3 : ((List.range rows.length).map fun i => rn rs (ys.getD i 0)) = ys.map (rn rs) := by
    have := list_getD ys
    rw [S.l1] at this
    conv => rhs; rw [this]
    rw [List.map_map]
    rfl
  have e4 : rs = ((List.range 12).map fun (i : Nat) => (i : Int)).map (rn rs) := by
    have := list_getD rs
    rw [A.l3] at this
    rw [List.map_map]
    exact this
  rw [e2, e3] at e1
  have e5 := sum_off_le (f := rn rs) _ ys S.nd range12_nd (S.bnd ok) fun h hh => by
    obtain ⟨n, hn, rfl⟩ := List.mem_map.mp hh
    have : ∀ n : Nat, rs.getD n 0 ≤ 0 := fun n => by
      rw [List.getD_eq_getElem?_getD]
      cases e : rs[n]? with
      | none => exact Int.le_refl _
      | some x => exact A.neg x (List.mem_of_getElem? e)
    exact this _
  rw [← e4] at e5
  unfold costs
  omega
theorem AllAt.cost_ {rows : Rows} {zs ps rs : List Int} (A : AllAt rows zs ps rs) : costs rows zs = ps.sum + rs.sum := A.sum
theorem cost_nn (rows : Rows) (i : Nat) (h : Int) : 0 ≤ cost rows i h := jumpZ_nn _ _
theorem sum_nn0 {α : Type} {f : α → Int} : ∀ l : List α, (∀ x ∈ l, 0 ≤ f x) → (l.map f).sum ≤ 0 → ∀ x ∈ l, f x = 0
  | [], _, _ => fun x hx => absurd hx (by simp)
  | y :: l, h, e => fun x hx => by
    rw [List.map_cons, List.sum_cons] at e
    have a := h y List.mem_cons_self
    have nn : 0 ≤ (l.map f).sum := by
      have : ∀ l : List α, (∀ x ∈ l, 0 ≤ f x) → 0 ≤ (l.map f).sum := fun l => by
        induction l with
        | nil => intro _; exact Int.le_refl _
        | cons z l ih =>
          intro h
          rw [List.map_cons, List.sum_cons]
          have := h z List.mem_cons_self
          have := ih fun x hx => h x (List.mem_cons_of_mem _ hx)
          omega
      exact this l fun x hx => h x (List.mem_cons_of_mem _ hx)
    rcases List.mem_cons.mp hx with rfl | hx
    · omega
    · exact sum_nn0 l (fun x hx => h x (List.mem_cons_of_mem _ hx)) (by omega) x hx
end CH
end

section
set_option Elab.async false
set_option linter.all false
set_option maxRecDepth 100000
/-! lemmas that the program's own defs lean on -/
namespace CH
open PySem PySem.Spec PyProof.Rows L2
open GxR (TabB TabG Tabbed)
theorem inV_str {x : Str} : ∀ xs : List Str, inV (.str x) (xs.map V.str) = decide (x ∈ xs)
  | [] => by simp [inV]
  | y :: ys => by
    have ih := inV_str (x := x) ys
    have e : inV (.str x) ((y :: ys).map V.str) = (decide (y = x) || inV (.str x) (ys.map V.str)) := rfl
    rw [e, ih]
    by_cases h : y = x
    · subst h; simp
    · have h' : ¬ x = y := fun z => h z.symm
      simp [h, h']
theorem flat_str : ∀ xs : List Str, (xs.map V.str).all flatV = true
  | [] => rfl
  | _ :: xs => flat_str xs
theorem flat_int : ∀ xs : List Int, (xs.map V.int).all flatV = true
  | [] => rfl
  | _ :: xs => flat_int xs
theorem blT {p : Prop} [Decidable p] (h : p) : V.bl (decide p) = V.bl true := by rw [decide_eq_true h]
theorem blF {p : Prop} [Decidable p] (h : ¬ p) : V.bl (decide p) = V.bl false := by rw [decide_eq_false h]
theorem cut2 (w : Wd) : cutV w.V none (some 2) = (kW w).map kV := by
  unfold cutV
  rw [HT.sIx_none, show HT.sIx w.V.length w.V.length (some 2) = min 2 w.V.length from HT.sIx_nat w.V.length w.V.length 2]
  rfl
theorem not_whole2 (w : Wd) : ¬ (HT.sIx w.V.length 0 none = 0 ∧ HT.sIx w.V.length w.V.length (some 2) = w.V.length) := by
  rw [show HT.sIx w.V.length w.V.length (some 2) = min 2 w.V.length from HT.sIx_nat w.V.length w.V.length 2]
  intro h
  have h2 : (2 : Nat) = 5 := h.2
  exact absurd h2 (by decide)
theorem inV_int {x : Int} : ∀ xs : List Int, inV (.int x) (xs.map V.int) = decide (x ∈ xs)
  | [] => by simp [inV]
  | y :: ys => by
    have ih := inV_int (x := x) ys
    have e : inV (.int x) ((y :: ys).map V.int) = (decide (y = x) || inV (.int x) (ys.map V.int)) := rfl
    rw [e, ih]
    by_cases h : y = x
    · subst h; simp
    · have h' : ¬ x = y := fun z => h z.symm
      simp [h, h']
theorem cut2b (w : Wd) : cutV w.V (some 2) none = [.int w.p, .int w.o, .str w.a] := by
  unfold cutV
  rw [HT.sIx_none, show HT.sIx w.V.length 0 (some 2) = min 2 w.V.length from HT.sIx_nat w.V.length 0 2]
  rfl
theorem not_whole2b (w : Wd) : ¬ (HT.sIx w.V.length 0 (some 2) = 0 ∧ HT.sIx w.V.length w.V.length none = w.V.length) := by
  rw [show HT.sIx w.V.length 0 (some 2) = min 2 w.V.length from HT.sIx_nat w.V.length 0 2]
  intro h
  have h2 : (2 : Nat) = 0 := h.1
  exact absurd h2 (by decide)
def kPO (p o : Int) : List Key := [Sum.inl p, Sum.inl o]
theorem kPO_inj {a b c d : Int} : kPO a b = kPO c d ↔ a = c ∧ b = d := by
  unfold kPO
  constructor
  · intro h
    injection h with h1 h2
    injection h2 with h2 _
    exact ⟨Sum.inl.inj h1, Sum.inl.inj h2⟩
  · rintro ⟨rfl, rfl⟩
    rfl
/-- the dict of the answers -/
def AnsD (kvs : List (List Key × V)) (f : Int → Int → Option Str) : Prop := ∀ p o, valV kvs (kPO p o) = (f p o).map V.str
theorem range_take {i n : Nat} (h : i < n) : (List.range n).take (i + 1) = (List.range n).take i ++ [i] := by
  rw [List.take_add_one, List.getElem?_range h] <;> rfl
/-- words and a meeting as they are handed in -/
structure Asked (K : PySem.W.Frag) (H : Hp) (l : Addr) (ws : List Wd) (a : Addr) (m : Mt) (cm cc : Addr) : Prop where
  hw : WsAt K H l ws
  h80 : ws.length ≤ 80
  ok : ∀ x ∈ ws, x.ok
  al : Alike ws
  hm : MAt K H a m
  mok : m.ok
  tm : TabG H cm
  tc : TabG H cc
theorem Asked.k {cm cc : Addr} {K : PySem.W.Frag} {H H' : Hp} {l a : Addr} {ws : List Wd} {m : Mt} (k : Kx H H') (h : Asked K H l ws a m cm cc) : Asked K H' l ws a m cm cc :=
  ⟨h.hw.k k, h.h80, h.ok, h.al, h.hm.k k, h.mok, k.g _ h.tm, k.g _ h.tc⟩
end CH
end

section
set_option Elab.async false
set_option linter.all false
/-! facts of classes of errors, as Bools over the written part -/
namespace CH
open PySem PySem.Spec PyProof.Rows L2
def excCB (K : PySem.W.Frag) (D : Addr) : Bool :=
  He.eqO (PySem.W.findIn K (.ref D) "__getattribute__") (some (some (.builtin "BaseException.__getattribute__"))) && (He.eqO (PySem.W.findIn K (.ref D) "__getattr__") (some none) && (decide (PySem.W.subIn K (.ref D) (.type "BaseException") = some true) && (PySem.W.hasDictIn K D &&
  (He.eqO (PySem.W.findIn K (.ref D) "__class__") (some (some (.builtin "object.__class__"))) && (He.eqO (PySem.W.specialIn K (.builtin "object.__class__") "__get__") (some (some (.builtin "getset_descriptor.__get__"))) && (decide (PySem.W.takesIn K (.builtin "object.__class__") = some true) && decide (PySem.W.mroIn K D (.type "object") = some true)))))))
theorem excCB_ok {K : PySem.W.Frag} {D : Addr} (h : excCB K D = true) : ExcC K D := by
  obtain ⟨h1, h⟩ := He.ba h
  obtain ⟨h2, h⟩ := He.ba h
  obtain ⟨h3, h⟩ := He.ba h
  obtain ⟨h4, h⟩ := He.ba h
  obtain ⟨h5, h⟩ := He.ba h
  obtain ⟨h6, h⟩ := He.ba h
  obtain ⟨h7, h8⟩ := He.ba h
  exact ⟨He.eqO_ok h1, He.eqO_ok h2, of_decide_eq_true h3, h4, He.eqO_ok h5, He.eqO_ok h6, of_decide_eq_true h7, of_decide_eq_true h8⟩
def kitEB (K : PySem.W.Frag) (x y : Str) (b : Bool) : Bool := decide (PySem.W.kitOne K (.ref (He.ga K x)) (.ref (He.ga K y)) = some b)
theorem kitEB_ok {K : PySem.W.Frag} {x y : Str} {b : Bool} (h : kitEB K x y b = true) : PySem.W.kitOne K (.ref (He.ga K x)) (.ref (He.ga K y)) = some b := of_decide_eq_true h
theorem exn_of {K : PySem.W.Frag} {h : Heap} {mg : Str → Option Value} {x : Str} (X : K.In h) (G : h.Ns mainGlobals mg) (g : (He.Fa.glo x).ok K = true) (e : (He.Fa.exc x).ok K = true) (c : excCB K (He.ga K x) = true) : Exn K mg x (He.ga K x) := by
  obtain ⟨e1, e2, e3, e4⟩ := He.exc_ok e
  exact ⟨He.glo_ok X G g, e1, e2, e3, e4, excCB_ok c⟩
def ownB (K : PySem.W.Frag) (C : Addr) : Bool :=
  He.eqO (PySem.W.findIn K (.ref C) "__class__") (some (some (.builtin "object.__class__"))) && (He.eqO (PySem.W.specialIn K (.builtin "object.__class__") "__get__") (some (some (.builtin "getset_descriptor.__get__"))) && (decide (PySem.W.takesIn K (.builtin "object.__class__") = some true) && decide (PySem.W.mroIn K C (.type "object") = some true)))
theorem own_of {K : PySem.W.Frag} {mg : Str → Option Value} {x : Str} {C : Addr} (g : mg x = some (.ref C)) (cl : Cls K C) (h : ownB K C = true) : Own K mg x C := by
  obtain ⟨h1, h⟩ := He.ba h
  obtain ⟨h2, h⟩ := He.ba h
  obtain ⟨h3, h4⟩ := He.ba h
  exact ⟨g, cl, He.eqO_ok h1, He.eqO_ok h2, of_decide_eq_true h3, of_decide_eq_true h4⟩
theorem codeAt_of {K : PySem.W.Frag} {x qual : Str} {st : Stmt} {dvs : List V} {p : Str × Option Str} {fd : FuncData} (F : FnQ K x qual st dvs (He.fAd K p) fd) : CodeAt K (He.fAd K p) (He.codeOf K p) := fun oc od osl fd' lk' => by
  obtain ⟨oc1, od1, dV, kV, doc, pm, an, cdv, ct, osl1, rfl, lk, hcd, _, _⟩ := F.ex
  obtain ⟨c', ec⟩ := He.codeIn_ref hcd
  have e2 : He.codeOf K p = c' := He.codeOf_eq lk ec
  rw [lk] at lk'
  cases lk'
  rw [e2]
  exact ec
theorem defQ_of {K : PySem.W.Frag} {mg : Str → Option Value} {x : Str} {st : Stmt} {dvs : List V} (F : ∃ fd, FnQ K x x st dvs (He.fAd K (x, none)) fd) (hm : mg x = some (.ref (He.ga K x))) : DefQ K mg x st dvs (He.codeOf K (x, none)) := by
  obtain ⟨fd, F⟩ := F
  exact ⟨_, fd, F, hm, codeAt_of F⟩
theorem metT_of {K : PySem.W.Frag} {x m qual : Str} {st : Stmt} (F : ∃ fd, FnQ K m qual st [] (He.fAd K (x, some m)) fd) (hm : Meth K (He.ga K x) m (He.ma K (He.ga K x) m)) (cl : Cls K (He.ga K x)) : MetT K (He.ga K x) m qual st (He.codeOf K (x, some m)) := by
  obtain ⟨fd, F⟩ := F
  exact ⟨_, fd, F, hm, cl, codeAt_of F⟩
theorem makT_of {K : PySem.W.Frag} {mg : Str → Option Value} {x qual : Str} {st : Stmt} (F : ∃ fd, FnQ K "__init__" qual st [] (He.fAd K (x, some "__init__")) fd) (hm : Mk K (He.ga K x) (He.ma K (He.ga K x) "__init__")) (g : mg x = some (.ref (He.ga K x))) : MakT K mg x (He.ga K x) qual st (He.codeOf K (x, some "__init__")) := by
  obtain ⟨fd, F⟩ := F
  exact ⟨_, fd, F, hm, g, codeAt_of F⟩
end CH
end

section
set_option Elab.async false
set_option linter.all false
namespace CH
open PySem L2
def top (i : Nat) : Stmt := PySem.Challenge.pw_commonhour_k07_whole_kin.main.body.getD i (.Pass ⟨0, 0, 0, 0⟩)
/-- what the head says of the module's names: built-ins are free, the constants -/
structure Tx (K : PySem.W.Frag) (mg : Str → Option Value) (aA : Addr) : Prop where
  z_ValueError : mg "ValueError" = none
  z_abs : mg "abs" = none
  z_all : mg "all" = none
  z_any : mg "any" = none
  z_bool : mg "bool" = none
  z_enumerate : mg "enumerate" = none
  z_int : mg "int" = none
  z_isinstance : mg "isinstance" = none
  z_len : mg "len" = none
  z_list : mg "list" = none
  z_min : mg "min" = none
  z_range : mg "range" = none
  z_set : mg "set" = none
  z_sorted : mg "sorted" = none
  z_str : mg "str" = none
  z_sum : mg "sum" = none
  z_tuple : mg "tuple" = none
  z_zip : mg "zip" = none
  c_MOST_WORDS : ∃ u, mg "MOST_WORDS" = some u ∧ RelV (.int 80) u
  c_MOST_MEETINGS : ∃ u, mg "MOST_MEETINGS" = some u ∧ RelV (.int 6) u
  c_COUNTS : ∃ u, mg "COUNTS" = some u ∧ RelV (.int 99) u
  c_HANDS : ∃ u, mg "HANDS" = some u ∧ RelV (.int 4) u
  c_PEOPLE : ∃ u, mg "PEOPLE" = some u ∧ RelV (.int 8) u
  c_HOURS : ∃ u, mg "HOURS" = some u ∧ RelV (.int 12) u
  c_ANSWERS : ∃ u, mg "ANSWERS" = some u ∧ RelV (.ref aA) u
  h_ANSWERS : ∀ H, SqT K H aA ((["yes", "maybe", "no"] : List Str).map V.str)
  c_YES : ∃ u, mg "YES" = some u ∧ RelV (.ref (He.ga K "YES")) u
  h_YES : ∀ H, SqT K H (He.ga K "YES") ((["yes"] : List Str).map V.str)
  c_YES_OR_MAYBE : ∃ u, mg "YES_OR_MAYBE" = some u ∧ RelV (.ref (He.ga K "YES_OR_MAYBE")) u
  h_YES_OR_MAYBE : ∀ H, SqT K H (He.ga K "YES_OR_MAYBE") ((["yes", "maybe"] : List Str).map V.str)
theorem Tx.hA {K : PySem.W.Frag} {mg : Str → Option Value} {aA : Addr} (T : Tx K mg aA) : ∀ H, SqT K H aA (ansL.map V.str) := T.h_ANSWERS
end CH
end

section
set_option Elab.async false
set_option linter.all false
set_option maxRecDepth 100000
set_option maxHeartbeats 4000000
namespace CH
open PySem PySem.Spec PyProof.Rows L2
open GxR (TabB TabG Tabbed)
section
variable {P : Program} {w : World} {K : PySem.W.Frag} {mg : Str → Option Value} {base : Heap} {c aA : Addr}
abbrev st_is_whole : Stmt := top 15
abbrev nm_is_whole : List Str := ["value"]
theorem sc_is_whole : FnScope nm_is_whole ["value"] (defScope st_is_whole) := C8.fnScope_by (by decide +kernel)
def sp_is_whole : Sp := fun vs H Q _ => ∃ (v : Int), vs = [.int v] ∧ Q (.bl true) H
theorem ok_is_whole (D : DefT K mg "is_whole" st_is_whole c) (T : Tx K mg aA) : C8.Cal P w K mg base 1 "is_whole" sp_is_whole [] := by
  refine cal_of D sc_is_whole (fun _ _ _ _ _ _ us hl => match us, hl with | [_], _ => rfl) (fun vs H Q E h => ?_) (fun f A outer s H vs Q E hr h => ?_)
  · obtain ⟨v, rfl, _⟩ := h
    rfl
  · obtain ⟨v, rfl, q⟩ := h
    have nd := sc_is_whole.nd
    refine ⟨_, (pss_one (ps_ret (pe_and (pe_callB call_isi (by rfl) T.z_isinstance (by decide +kernel) (pa_cons (pv 0) (pa_cons (pe_bltn (v := .ty "int") (by rfl) T.z_int (by decide +kernel) rfl) pa_nil))) (pe_one (pe_not (pe_callB call_isi (by rfl) T.z_isinstance (by decide +kernel) (pa_cons (pv 0) (pa_cons (pe_bltn (v := .ty "bool") (by rfl) T.z_bool (by decide +kernel) rfl) pa_nil)))))))), ?_⟩
    refine ⟨_, rfl, .int v, .ty "int", .type "int", .type "int", true, rfl, .ty _, .base (.int v), kit_ty (by decide +kernel), true, rfl, ?_⟩
    refine iteT ⟨_, rfl, .int v, .ty "bool", .type "int", .type "bool", false, rfl, .ty _, .base (.int v), kit_ty (by decide +kernel), false, rfl, ?_⟩
    exact q
abbrev st_is_number : Stmt := top 16
abbrev nm_is_number : List Str := ["value", "least", "most"]
theorem sc_is_number : FnScope nm_is_number ["value", "least", "most"] (defScope st_is_number) := C8.fnScope_by (by decide +kernel)
def sp_is_number : Sp := fun vs H Q _ => ∃ (v lo hi : Int), vs = [.int v, .int lo, .int hi] ∧ Q (.bl (decide (lo ≤ v ∧ v ≤ hi))) H
theorem ok_is_number (D : DefT K mg "is_number" st_is_number c) (f_is_whole : C8.Cal P w K mg base 1 "is_whole" sp_is_whole []) : C8.Cal P w K mg base 2 "is_number" sp_is_number [] := by
  refine cal_of D sc_is_number (fun _ _ _ _ _ _ us hl => match us, hl with | [_, _, _], _ => rfl) (fun vs H Q E h => ?_) (fun f A outer s H vs Q E hr h => ?_)
  · obtain ⟨v, lo, hi, rfl, _⟩ := h
    rfl
  · obtain ⟨v, lo, hi, rfl, q⟩ := h
    have nd := sc_is_number.nd
    refine ⟨_, (pss_one (ps_ret (pe_and (C8.pe_c f_is_whole hr (by decide) (by rfl) (pa_cons (pv 0) pa_nil)) (pe_one (pe_chain op_le op_le (pv 1) (pv 0) (pv 2)))))), ?_⟩
    refine ⟨_, rfl, v, rfl, true, rfl, iteT ?_⟩
    refine ⟨_, rfl, _, rfl, _, _, rfl, rfl, _, rfl, ?_⟩
    by_cases h1 : lo ≤ v
    · rw [decide_eq_true h1]
      refine iteT ⟨_, rfl, _, _, rfl, rfl, ?_⟩
      rw [show decide (lo ≤ v ∧ v ≤ hi) = decide (v ≤ hi) by simp [h1]] at q
      exact q
    · rw [decide_eq_false h1]
      refine iteF ?_
      rw [show decide (lo ≤ v ∧ v ≤ hi) = false by simp [h1]] at q
      exact q
abbrev st_is_hand : Stmt := top 17
abbrev nm_is_hand : List Str := ["value"]
theorem sc_is_hand : FnScope nm_is_hand ["value"] (defScope st_is_hand) := C8.fnScope_by (by decide +kernel)
def sp_is_hand : Sp := fun vs H Q _ => ∃ (v : Int), vs = [.int v] ∧ Q (.bl (decide (0 ≤ v ∧ v ≤ 3))) H
theorem ok_is_hand (D : DefT K mg "is_hand" st_is_hand c) (T : Tx K mg aA) (f_is_number : C8.Cal P w K mg base 2 "is_number" sp_is_number []) : C8.Cal P w K mg base 3 "is_hand" sp_is_hand [] := by
  refine cal_of D sc_is_hand (fun _ _ _ _ _ _ us hl => match us, hl with | [_], _ => rfl) (fun vs H Q E h => ?_) (fun f A outer s H vs Q E hr h => ?_)
  · obtain ⟨v, rfl, _⟩ := h
    rfl
  · obtain ⟨v, rfl, q⟩ := h
    have nd := sc_is_hand.nd
    refine ⟨_, (pss_one (ps_ret (C8.pe_c f_is_number hr (by decide) (by rfl) (pa_cons (pv 0) (pa_cons pe_int (pa_cons (pe_op op_sub (C8.pe_gc (by rfl) T.c_HANDS) pe_int) pa_nil)))))), ?_⟩
    exact ⟨_, rfl, _, _, rfl, rfl, v, 0, 3, rfl, q⟩
abbrev st_is_person : Stmt := top 18
abbrev nm_is_person : List Str := ["value"]
theorem sc_is_person : FnScope nm_is_person ["value"] (defScope st_is_person) := C8.fnScope_by (by decide +kernel)
def sp_is_person : Sp := fun vs H Q _ => ∃ (v : Int), vs = [.int v] ∧ Q (.bl (decide (0 ≤ v ∧ v ≤ 7))) H
theorem ok_is_person (D : DefT K mg "is_person" st_is_person c) (T : Tx K mg aA) (f_is_number : C8.Cal P w K mg base 2 "is_number" sp_is_number []) : C8.Cal P w K mg base 3 "is_person" sp_is_person [] := by
  refine cal_of D sc_is_person (fun _ _ _ _ _ _ us hl => match us, hl with | [_], _ => rfl) (fun vs H Q E h => ?_) (fun f A outer s H vs Q E hr h => ?_)
  · obtain ⟨v, rfl, _⟩ := h
    rfl
  · obtain ⟨v, rfl, q⟩ := h
    have nd := sc_is_person.nd
    refine ⟨_, (pss_one (ps_ret (C8.pe_c f_is_number hr (by decide) (by rfl) (pa_cons (pv 0) (pa_cons pe_int (pa_cons (pe_op op_sub (C8.pe_gc (by rfl) T.c_PEOPLE) pe_int) pa_nil)))))), ?_⟩
    exact ⟨_, rfl, _, _, rfl, rfl, v, 0, 7, rfl, q⟩
abbrev st_is_hour : Stmt := top 19
abbrev nm_is_hour : List Str := ["value"]
theorem sc_is_hour : FnScope nm_is_hour ["value"] (defScope st_is_hour) := C8.fnScope_by (by decide +kernel)
def sp_is_hour : Sp := fun vs H Q _ => ∃ (v : Int), vs = [.int v] ∧ Q (.bl (decide (0 ≤ v ∧ v ≤ 11))) H
theorem ok_is_hour (D : DefT K mg "is_hour" st_is_hour c) (T : Tx K mg aA) (f_is_number : C8.Cal P w K mg base 2 "is_number" sp_is_number []) : C8.Cal P w K mg base 3 "is_hour" sp_is_hour [] := by
  refine cal_of D sc_is_hour (fun _ _ _ _ _ _ us hl => match us, hl with | [_], _ => rfl) (fun vs H Q E h => ?_) (fun f A outer s H vs Q E hr h => ?_)
  · obtain ⟨v, rfl, _⟩ := h
    rfl
  · obtain ⟨v, rfl, q⟩ := h
    have nd := sc_is_hour.nd
    refine ⟨_, (pss_one (ps_ret (C8.pe_c f_is_number hr (by decide) (by rfl) (pa_cons (pv 0) (pa_cons pe_int (pa_cons (pe_op op_sub (C8.pe_gc (by rfl) T.c_HOURS) pe_int) pa_nil)))))), ?_⟩
    exact ⟨_, rfl, _, _, rfl, rfl, v, 0, 11, rfl, q⟩
abbrev st_is_answer : Stmt := top 20
abbrev nm_is_answer : List Str := ["value"]
theorem sc_is_answer : FnScope nm_is_answer ["value"] (defScope st_is_answer) := C8.fnScope_by (by decide +kernel)
def sp_is_answer : Sp := fun vs H Q _ => ∃ (x : Str), vs = [.str x] ∧ Q (.bl (decide (x ∈ ansL))) H
theorem ok_is_answer (D : DefT K mg "is_answer" st_is_answer c) (T : Tx K mg aA) : C8.Cal P w K mg base 1 "is_answer" sp_is_answer [] := by
  refine cal_of D sc_is_answer (fun _ _ _ _ _ _ us hl => match us, hl with | [_], _ => rfl) (fun vs H Q E h => ?_) (fun f A outer s H vs Q E hr h => ?_)
  · obtain ⟨x, rfl, _⟩ := h
    rfl
  · obtain ⟨x, rfl, q⟩ := h
    have nd := sc_is_answer.nd
    refine ⟨_, (pss_one (ps_ret (pe_and (pe_callB call_isi (by rfl) T.z_isinstance (by decide +kernel) (pa_cons (pv 0) (pa_cons (pe_bltn (v := .ty "str") (by rfl) T.z_str (by decide +kernel) rfl) pa_nil))) (pe_one (pe_cmpR op_in_seq (pv 0) (C8.pe_gc (by rfl) T.c_ANSWERS) (by rfl)))))), ?_⟩
    refine ⟨_, rfl, .str x, .ty "str", .type "str", .type "str", true, rfl, .ty _, .base (.str x), kit_ty (by decide +kernel), true, rfl, ?_⟩
    refine iteT ⟨_, rfl, aA, ansL.map V.str, rfl, .inr (T.hA H), rfl, flat_str _, ?_⟩
    rw [if_neg Bool.false_ne_true, inV_str]
    exact q
end
end CH
end

section
set_option Elab.async false
set_option linter.all false
set_option maxRecDepth 100000
set_option maxHeartbeats 4000000
namespace CH
open PySem PySem.Spec PyProof.Rows L2
open GxR (TabB TabG Tabbed)
section
variable {P : Program} {w : World} {K : PySem.W.Frag} {mg : Str → Option Value} {base : Heap} {c aA : Addr}
abbrev st_is_word : Stmt := top 21
abbrev nm_is_word : List Str := ["value", "count", "hand", "person", "hour", "answer"]
theorem sc_is_word : FnScope nm_is_word ["value"] (defScope st_is_word) := C8.fnScope_by (by decide +kernel)
/-- a word, or not quite one -/
def sp_is_word (K : PySem.W.Frag) : Sp := fun vs H Q _ => ∃ (t : Addr) (x : Wd), vs = [.ref t] ∧ SqT K H t x.V ∧ Q (.bl (decide x.ok)) H
theorem ok_is_word (D : DefT K mg "is_word" st_is_word c) (T : Tx K mg aA) (f_is_number : C8.Cal P w K mg base 2 "is_number" sp_is_number []) (f_is_hand : C8.Cal P w K mg base 3 "is_hand" sp_is_hand []) (f_is_person : C8.Cal P w K mg base 3 "is_person" sp_is_person []) (f_is_hour : C8.Cal P w K mg base 3 "is_hour" sp_is_hour []) (f_is_answer : C8.Cal P w K mg base 1 "is_answer" sp_is_answer []) :
    C8.Cal P w K mg base 4 "is_word" (sp_is_word K) [] := by
  refine cal_of D sc_is_word (fun _ _ _ _ _ _ us hl => match us, hl with | [_], _ => rfl) (fun vs H Q E h => ?_) (fun f A outer s H vs Q E hr h => ?_)
  · obtain ⟨t, x, rfl, _⟩ := h
    rfl
  · obtain ⟨t, x, rfl, ht, q⟩ := h
    have nd := sc_is_word.nd
    refine ⟨_, (pss_cons (ps_if (PW.pt (pw_or (pt_not (pt_val (pe_callB call_isi (by rfl) T.z_isinstance (by decide +kernel) (pa_cons (pv 0) (pa_cons (pe_bltn (v := .ty "tuple") (by rfl) T.z_tuple (by decide +kernel) rfl) pa_nil))))) (pw_or1 (pt_cmpR op_ne (pe_callB call_len_seq (by rfl) T.z_len PySem.boot_len (pa_cons (pv 0) pa_nil)) pe_int (nomark _))))) (pss_one (ps_ret pe_bl)) pss_nil)
      (pss_cons (ps_asg (pv 0) (pg_tup (by rfl) (pgs_cons (pg_name (i := 1) nd rfl (Or.inl rfl)) (pgs_cons (pg_name (i := 2) nd rfl (Or.inl rfl)) (pgs_cons (pg_name (i := 3) nd rfl (Or.inl rfl)) (pgs_cons (pg_name (i := 4) nd rfl (Or.inl rfl)) (pgs_cons (pg_name (i := 5) nd rfl (Or.inl rfl)) pgs_nil)))))))
      (pss_one (ps_ret (pe_and (C8.pe_c f_is_number hr (by decide) (by rfl) (pa_cons (pv 1) (pa_cons pe_int (pa_cons (C8.pe_gc (by rfl) T.c_COUNTS) pa_nil)))) (pe_and (C8.pe_c f_is_hand hr (by decide) (by rfl) (pa_cons (pv 2) pa_nil)) (pe_and (C8.pe_c f_is_person hr (by decide) (by rfl) (pa_cons (pv 3) pa_nil)) (pe_and (C8.pe_c f_is_hour hr (by decide) (by rfl) (pa_cons (pv 4) pa_nil)) (pe_one (C8.pe_c f_is_answer hr (by decide) (by rfl) (pa_cons (pv 5) pa_nil))))))))))), ?_⟩
    refine ⟨_, rfl, .ref t, .ty "tuple", .type "tuple", .type "tuple", true, rfl, .ty _, tyx_tup ht, kit_ty (by decide +kernel), true, rfl, iteF ?_⟩
    refine ⟨_, rfl, t, _, rfl, .inr ht, rfl, _, rfl, iteF ?_⟩
    have no : ¬ x.ok → Q (.bl false) H := fun z => by
      rw [decide_eq_false z] at q
      exact q
    -- count, hand, person, hour, answer = value
    refine ⟨_, rfl, t, _, rfl, ht, rfl, _, _, rfl, _, _, rfl, _, _, rfl, _, _, rfl, _, _, rfl, rfl, ?_⟩
    by_cases o1 : 1 ≤ x.c ∧ x.c ≤ 99
    case neg => exact ⟨_, rfl, x.c, 1, 99, rfl, false, blF o1, iteF (no fun z => o1 ⟨z.1, z.2.1⟩)⟩
    refine ⟨_, rfl, x.c, 1, 99, rfl, true, blT o1, iteT ?_⟩
    by_cases o2 : 0 ≤ x.h ∧ x.h ≤ 3
    case neg => exact ⟨_, rfl, x.h, rfl, false, blF o2, iteF (no fun z => o2 ⟨z.2.2.1, z.2.2.2.1⟩)⟩
    refine ⟨_, rfl, x.h, rfl, true, blT o2, iteT ?_⟩
    by_cases o3 : 0 ≤ x.p ∧ x.p ≤ 7
    case neg => exact ⟨_, rfl, x.p, rfl, false, blF o3, iteF (no fun z => o3 ⟨z.2.2.2.2.1, z.2.2.2.2.2.1⟩)⟩
    refine ⟨_, rfl, x.p, rfl, true, blT o3, iteT ?_⟩
    by_cases o4 : 0 ≤ x.o ∧ x.o ≤ 11
    case neg => exact ⟨_, rfl, x.o, rfl, false, blF o4, iteF (no fun z => o4 ⟨z.2.2.2.2.2.2.1, z.2.2.2.2.2.2.2.1⟩)⟩
    refine ⟨_, rfl, x.o, rfl, true, blT o4, iteT ?_⟩
    refine ⟨_, rfl, x.a, rfl, ?_⟩
    by_cases o9 : x.a ∈ ansL
    · rw [blT o9]
      rw [decide_eq_true (show x.ok from ⟨o1.1, o1.2, o2.1, o2.2, o3.1, o3.2, o4.1, o4.2, o9⟩)] at q
      exact q
    · rw [blF o9]
      exact no fun z => o9 z.2.2.2.2.2.2.2.2
abbrev st_copied_words : Stmt := top 22
abbrev nm_copied_words : List Str := ["words", "copies", "word", "count", "hand", "person", "hour", "answer"]
theorem sc_copied_words : FnScope nm_copied_words ["words"] (defScope st_copied_words) := C8.fnScope_by (by decide +kernel)
/-- words, eighty at most: a new list of them; else BadWords -/
def sp_copied_words (K : PySem.W.Frag) (cB : Addr) : Sp := fun vs H Q E => ∃ (l : Addr) (ws : List Wd), vs = [.ref l] ∧ WsAt K H l ws ∧ ws.length ≤ 1000 ∧
  (ws.length ≤ 80 → (∀ x ∈ ws, x.ok) → ∀ (H' : Hp) (r : Addr) (ts : List Addr), Kx H H' → H r = none → H' r = some (.lst (ts.map V.ref)) → TAt H' ts ws → Q (.ref r) H') ∧
  ((80 < ws.length ∨ ∃ x ∈ ws, ¬ x.ok) → ∀ H', Kx H H' → E (.ref cB) none H')
theorem ok_copied_words {cB : Addr} (D : DefT K mg "copied_words" st_copied_words c) (T : Tx K mg aA) (e_BadWords : Exn K mg "BadWords" cB) (f_is_word : C8.Cal P w K mg base 4 "is_word" (sp_is_word K) []) : CalX P w K mg base 5 "copied_words" (sp_copied_words K cB) := by
  refine calX_of D sc_copied_words (fun _ _ _ _ _ _ us hl => match us, hl with | [_], _ => rfl) (fun vs H Q E h => ?_) (fun f A outer s H vs Q E hr h => ?_)
  · obtain ⟨l, ws, rfl, _⟩ := h
    rfl
  · obtain ⟨l, ws, rfl, ⟨ts, hl, hw⟩, h1000, q, qe⟩ := h
    have nd := sc_copied_words.nd
    have len := paired_len hw
    refine ⟨_, (pss_cons (ps_if (PW.pt (pw_or (pt_not (pt_val (pe_callB call_isi (by rfl) T.z_isinstance (by decide +kernel) (pa_cons (pv 0) (pa_cons (pe_bltn (v := .ty "list") (by rfl) T.z_list (by decide +kernel) rfl) pa_nil))))) (pw_or1 (pt_cmpR op_gt (pe_callB call_len_seq (by rfl) T.z_len PySem.boot_len (pa_cons (pv 0) pa_nil)) (C8.pe_gc (by rfl) T.c_MOST_WORDS) (nomark _))))) (pss_one (ps_raise rfl (takes_of rfl rfl rfl rfl) (pmk_own PySem.F.excBase_ValueError e_BadWords.q e_BadWords.g e_BadWords.k (raises_own e_BadWords.b e_BadWords.t) (by rfl)))) pss_nil)
      (pss_cons (ps_set (i := 1) nd rfl (Or.inl rfl) (pe_lst pa_nil))
      (pss_cons (ps_for (passes_of rfl) rfl (pi_list (pv 0)) (pg_name (i := 2) nd rfl (Or.inl rfl)) (pss_cons (ps_if (pt_not (pt_val (C8.pe_c f_is_word hr (by decide) (by rfl) (pa_cons (pv 2) pa_nil)))) (pss_one (ps_raise rfl (takes_of rfl rfl rfl rfl) (pmk_own PySem.F.excBase_ValueError e_BadWords.q e_BadWords.g e_BadWords.k (raises_own e_BadWords.b e_BadWords.t) (by rfl)))) pss_nil)
      (pss_cons (ps_asg (pv 2) (pg_tup (by rfl) (pgs_cons (pg_name (i := 3) nd rfl (Or.inl rfl)) (pgs_cons (pg_name (i := 4) nd rfl (Or.inl rfl)) (pgs_cons (pg_name (i := 5) nd rfl (Or.inl rfl)) (pgs_cons (pg_name (i := 6) nd rfl (Or.inl rfl)) (pgs_cons (pg_name (i := 7) nd rfl (Or.inl rfl)) pgs_nil)))))))
      (pss_one (ps_expr (pe_bm PySem.F.plainAttrs_list PySem.F.slot_list_append PySem.F.type_list_append mt_append (pv 1) (pa_cons (pe_tup (pa_cons (pv 3) (pa_cons (pv 4) (pa_cons (pv 5) (pa_cons (pv 6) (pa_cons (pv 7) pa_nil)))))) pa_nil)))))))
      (pss_one (ps_ret (pv 1)))))), ?_⟩
    refine ⟨_, rfl, .ref l, .ty "list", .type "list", .type "list", true, rfl, .ty _, tyx_lst hl, kit_ty (by decide +kernel), true, rfl, iteF ?_⟩
    refine ⟨_, rfl, l, _, rfl, .inl hl, _, 80, rfl, rfl, _, rfl, ?_⟩
    rw [List.length_map]
    by_cases h80 : 80 < ws.length
    · rw [show decide ((ts.length : Int) > 80) = true from decide_eq_true (by omega)]
      exact iteT (qe (.inl h80) _ (Kx.refl H))
    rw [show decide ((ts.length : Int) > 80) = false from decide_eq_false (by omega)]
    refine iteF ?_
    -- copies = []
    refine ⟨Nat.zero_le _, fun r nr => ?_⟩
    have k0 : Kx H (upd H r (.lst [])) := Kx.new nr
    refine ⟨_, rfl, l, rfl, ⟨_, k0.l hl⟩, for_list (K := K) (a := l) (xs := ts.map V.ref) (fun i σ H2 => ∃ (rs : List Addr) (v2 v3 v4 v5 v6 v7 : Option V), σ = [some (.ref l), some (.ref r), v2, v3, v4, v5, v6, v7] ∧ Kx H H2 ∧
        H2 r = some (.lst (rs.map V.ref)) ∧ TAt H2 rs (ws.take i) ∧ ∀ x ∈ ws.take i, x.ok)
      ⟨[], none, none, none, none, none, none, rfl, k0, upd_same, .nil, fun x hx => absurd hx (by simp)⟩ (fun i σ H2 _ ⟨_, _, _, _, _, _, _, _, k2, _⟩ => k2.l hl) ?_ ?_⟩
    · rintro i y σ H2 hi ⟨rs, v2, v3, v4, v5, v6, v7, rfl, k2, hr2, hrs, ok2⟩
      obtain ⟨t, ht, rfl⟩ : ∃ t, ts[i]? = some t ∧ V.ref t = y := by
        rw [List.getElem?_map] at hi
        exact Option.map_eq_some_iff.mp hi
      obtain ⟨x, hx, hsx⟩ := paired_at hw ht
      have hsx2 := k2.t hsx
      by_cases okx : x.ok
      case neg => exact ⟨_, rfl, t, x, rfl, hsx2, false, blF okx, iteT (qe (.inr ⟨x, List.mem_of_getElem? hx, okx⟩) _ k2)⟩
      refine ⟨_, rfl, t, x, rfl, hsx2, true, blT okx, iteF ?_⟩
      refine ⟨_, rfl, t, _, rfl, hsx2, rfl, _, _, rfl, _, _, rfl, _, _, rfl, _, _, rfl, _, _, rfl, rfl, ?_⟩
      refine ⟨_, rfl, .inl ⟨rfl, _, sq_of hr2⟩, _, rfl, _, rfl, _, rfl, _, rfl, _, rfl, (by show 5 ≤ sizeLine; decide), fun p np => ?_⟩
      have k3 : Kx H2 (upd H2 p (.tup x.V)) := Kx.new np
      have nrp : r ≠ p := ne_of_none hr2 np
      have lenr : rs.length ≤ 80 := by
        rw [paired_len hrs, List.length_take]
        omega
      refine ⟨r, rs.map V.ref, _, rfl, rfl, k3.lst hr2, (by rw [List.length_map]; exact lt80 (by omega)), ?_⟩
      have e : ws.take (i + 1) = ws.take i ++ [x] := by rw [List.take_add_one, hx] <;> rfl
      refine ⟨rs ++ [p], _, _, _, _, _, _, rfl, (k2.trans k3).mut nr, ?_, ?_, ?_⟩
      · rw [upd_same, List.map_append]
        rfl
      · rw [e]
        refine paired_snoc ((hrs.k k3).up (k3.lst hr2) (fun _ z => nomatch z)) ?_
        rw [upd_ne nrp.symm, upd_same]
        rfl
      · rw [e]
        intro y hy
        rcases List.mem_append.mp hy with hy | hy
        · exact ok2 y hy
        · rw [List.mem_singleton.mp hy]
          exact okx
    · rintro σ H2 ⟨rs, v2, v3, v4, v5, v6, v7, rfl, k2, hr2, hrs, ok2⟩
      rw [List.length_map, len, List.take_length] at hrs ok2
      exact ⟨_, rfl, q (by omega) ok2 H2 r rs k2 nr hr2 hrs⟩
end
end CH
end

section
set_option Elab.async false
set_option linter.all false
set_option maxRecDepth 100000
set_option maxHeartbeats 4000000
namespace CH
open PySem PySem.Spec PyProof.Rows L2
open GxR (TabB TabG Tabbed)
section
variable {P : Program} {w : World} {K : PySem.W.Frag} {mg : Str → Option Value} {base : Heap} {c aA : Addr}
abbrev st_each_once : Stmt := top 23
abbrev nm_each_once : List Str := ["words", "known", "word", "place"]
theorem sc_each_once : FnScope nm_each_once ["words"] (defScope st_each_once) := C8.fnScope_by (by decide +kernel)
/-- words: a new list, each once, in order; or Unlike -/
def sp_each_once (K : PySem.W.Frag) (cU : Addr) : Sp := fun vs H Q E => ∃ (l : Addr) (ts : List Addr) (ws : List Wd), vs = [.ref l] ∧ SqL K H l (ts.map V.ref) ∧ TAt H ts ws ∧ ws.length ≤ 200 ∧ (∀ x ∈ ws, x.ok) ∧
  (Alike ws → ∀ (H' : Hp) (r : Addr) (ts : List Addr) (us : List Wd), Kx H H' → H r = none → H' r = some (.lst (ts.map V.ref)) → TAt H' ts us → Once ws us → Q (.ref r) H') ∧
  (¬ Alike ws → ∀ H', Kx H H' → E (.ref cU) none H')
theorem ok_each_once {cU : Addr} (D : DefT K mg "each_once" st_each_once c) (T : Tx K mg aA) (e_Unlike : Exn K mg "Unlike" cU) : CalX P w K mg base 1 "each_once" (sp_each_once K cU) := by
  refine calX_of D sc_each_once (fun _ _ _ _ _ _ us hl => match us, hl with | [_], _ => rfl) (fun vs H Q E h => ?_) (fun f A outer s H vs Q E hr h => ?_)
  · obtain ⟨l, ts, ws, rfl, _⟩ := h
    rfl
  · obtain ⟨l, ts, ws, rfl, hl, hw, h200, hok, q, qe⟩ := h
    have nd := sc_each_once.nd
    have hu := hu_of hr
    have len := paired_len hw
    refine ⟨_, (pss_cons (ps_set (i := 1) nd rfl (Or.inl rfl) pe_dnewT)
      (pss_cons (ps_for (passes_of rfl) rfl (pi_list (pv 0)) (pg_name (i := 2) nd rfl (Or.inl rfl)) (pss_cons (ps_set (i := 3) nd rfl (Or.inl rfl) (pe_slice sl_tup (pv 2) po_none (po_some pe_int)))
      (pss_one (ps_if (pt_cmpR (op_neD hr.units) (pe_setdT hu (pv 1) (pv 3) (pv 2) ⟨rfl, rfl, rfl, rfl⟩) (pv 2) (nomark _)) (pss_one (ps_raise rfl (takes_of rfl rfl rfl rfl) (pmk_own PySem.F.excBase_ValueError e_Unlike.q e_Unlike.g e_Unlike.k (raises_own e_Unlike.b e_Unlike.t) (by rfl)))) pss_nil))))
      (pss_one (ps_ret (pe_callB (cr_sortedVals rfl) (by rfl) T.z_sorted (by decide +kernel) (pa_cons (pe_bm0 PySem.F.plainAttrs_dict PySem.F.slot_dict_values PySem.F.type_dict_values mt_valuesT (pv 1)) pa_nil)))))), ?_⟩
    intro d nd0
    have k0 : Kx H (upd H d (.dT [])) := Kx.new nd0
    refine ⟨_, rfl, l, rfl, ⟨_, k0.l hl⟩, for_list (K := K) (a := l) (xs := ts.map V.ref) (fun i σ H2 => ∃ (qs : List (Addr × Wd)) (v2 v3 : Option V), σ = [some (.ref l), some (.ref d), v2, v3] ∧ Kx H H2 ∧
        H2 d = some (.dT (qs.map entW)) ∧ PAt H2 qs ∧ Kept qs (ws.take i) ∧ qs.length ≤ i)
      ⟨[], none, none, rfl, k0, upd_same, fun q z => absurd z (by simp), Kept.nil, Nat.le_refl _⟩ (fun i σ H2 _ ⟨_, _, _, _, k2, _⟩ => k2.l hl) ?_ ?_⟩
    · rintro i y σ H2 hi ⟨qs, v2, v3, rfl, k2, hd2, hp2, kq, hlq⟩
      obtain ⟨t, ht, rfl⟩ : ∃ t, ts[i]? = some t ∧ V.ref t = y := by
        rw [List.getElem?_map] at hi
        exact Option.map_eq_some_iff.mp hi
      obtain ⟨x, hx, hsx⟩ := paired_at hw ht
      have hxm : x ∈ ws := List.mem_of_getElem? hx
      have hi2 : i < ts.length := (List.getElem?_eq_some_iff.mp ht).1
      have e1 : ws.take (i + 1) = ws.take i ++ [x] := by rw [List.take_add_one, hx] <;> rfl
      have hs2 := k2.tup hsx
      -- place = word[:2]
      refine ⟨_, rfl, 2, rfl, t, _, rfl, st_of hs2, not_whole2 x, fun p np => ?_⟩
      have k3 : Kx H2 (upd H2 p (.tup (cutV x.V none (some 2)))) := Kx.new np
      have hpl : (upd H2 p (.tup (cutV x.V none (some 2)))) p = some (.tup ((kW x).map kV)) := by rw [upd_same, cut2]
      have hd3 := k3.dt hd2
      have hs3 := k3.tup hs2
      refine ⟨.ref d, rfl, d, rfl, .inr ⟨_, .inl hd3⟩, .ref p, rfl, .ref t, rfl, _, kW x, p, hd3, rfl, hpl, (by rw [List.length_map]; exact lt80 (by omega)), fun v hv => ?_, fun hv => ?_⟩
      · -- it was there
        rcases valV_entW (w := x) (qs := qs) with ⟨q0, hq0, ek, ev⟩ | ⟨_, ev⟩
        · rw [ev] at hv
          cases hv
          have hm : q0.2 ∈ ws.take i := (kq.mem q0.2).mp (List.mem_map.mpr ⟨q0, hq0, rfl⟩)
          have hm2 : q0.2 ∈ ws := List.mem_of_mem_take hm
          obtain ⟨c1, c2⟩ := kW_inj ek
          have hq3 := k3.tup (hp2 q0 hq0)
          have hok0 := hok _ hm2
          refine ⟨.ref t, rfl, wdD q0.2, wdD x, wdD_dp (st_of hq3), wdD_dp (st_of hs3), wdD_sh hok0.2.2.2.2.2.2.2.2, wdD_sh (hok x hxm).2.2.2.2.2.2.2.2, _, rfl, ?_⟩
          rw [wdD_eqv]
          by_cases eq0 : q0.2 = x
          case neg =>
            rw [decide_eq_false eq0]
            exact iteT (qe (fun al => eq0 (al _ hm2 _ hxm c1 c2)) _ (k2.trans k3))
          rw [decide_eq_true eq0]
          rw [eq0] at hq3 hm
          refine iteF ?_
          refine ⟨qs, _, _, rfl, k2.trans k3, hd3, hp2.k k3, ?_, by omega⟩
          rw [e1]
          exact kq.same ((kq.mem x).mpr hm)
        · rw [ev] at hv
          cases hv
      · -- it is new
        rcases valV_entW (w := x) (qs := qs) with ⟨q0, hq0, ek, ev⟩ | ⟨en, _⟩
        · rw [ev] at hv
          cases hv
        · have ndt : d ≠ t := fun e => by
            rw [← e, hd3] at hs3
            cases hs3
          have hs4 : (upd (upd H2 p (.tup (cutV x.V none (some 2)))) d (.dT (putK (qs.map entW) (kW x) (.ref t)))) t = some (.tup x.V) := by
            rw [upd_ne ndt.symm]
            exact hs3
          refine ⟨.ref t, rfl, wdD x, wdD x, wdD_dp (st_of hs4), wdD_dp (st_of hs4), wdD_sh (hok x hxm).2.2.2.2.2.2.2.2, wdD_sh (hok x hxm).2.2.2.2.2.2.2.2, _, rfl, ?_⟩
          rw [wdD_eqv, decide_eq_true rfl]
          refine iteF ?_
          refine ⟨qs ++ [(t, x)], _, _, rfl, (k2.trans k3).mut nd0, ?_, fun q0 hq0 => ?_, ?_, by rw [List.length_append]; show qs.length + 1 ≤ i + 1; omega⟩
          · rw [upd_same, putK_new _ hv, List.map_append]
            rfl
          · rcases List.mem_append.mp hq0 with z | z
            · exact ((hp2.k k3).up hd3 (fun _ z => nomatch z)) q0 z
            · rw [List.mem_singleton.mp z]
              exact hs4
          · rw [e1]
            exact kq.more (q := (t, x)) en
    · rintro σ H2 ⟨qs, v2, v3, rfl, k2, hd2, hp2, kq, hlq⟩
      rw [List.length_map, len, List.take_length] at kq
      -- sorted(known.values())
      refine ⟨.ref d, rfl, .inr (.inr (.inl ⟨rfl, .inr ⟨_, hd2⟩⟩)), d, _, rfl, rfl, hd2, fun p np => ?_⟩
      have k3 : Kx H2 (upd H2 p (valsO p d)) := Kx.new np
      refine ⟨p, d, _, qs.map (·.1), wkOf H2, 4, rfl, upd_same, k3.dt hd2, ?_, by decide, fun t ht => ?_, fun ts' r hperm hsort nr => ?_⟩
      · rw [List.map_map, List.map_map]
        rfl
      · obtain ⟨q0, hq0, rfl⟩ := List.mem_map.mp ht
        have e := wkOf_eq (hp2 q0 hq0)
        rw [e]
        exact ⟨st_of (k3.tup (hp2 q0 hq0)), rfl⟩
      · obtain ⟨us, h1, h2⟩ := once_of kq hp2 hperm hsort
        have k4 : Kx (upd H2 p (valsO p d)) (upd (upd H2 p (valsO p d)) r (.lst (ts'.map V.ref))) := Kx.new nr
        refine q kq.alike _ r ts' us ((k2.trans k3).trans k4) ((k2.trans k3).f r nr) upd_same ((h1.k k3).k k4) h2
abbrev st_checked_words : Stmt := top 24
abbrev nm_checked_words : List Str := ["words"]
theorem sc_checked_words : FnScope nm_checked_words ["words"] (defScope st_checked_words) := C8.fnScope_by (by decide +kernel)
def sp_checked_words (K : PySem.W.Frag) (cB cU : Addr) : Sp := fun vs H Q E => ∃ (l : Addr) (ws : List Wd), vs = [.ref l] ∧ WsAt K H l ws ∧ ws.length ≤ 1000 ∧
  (ws.length ≤ 80 → (∀ x ∈ ws, x.ok) → Alike ws → ∀ (H' : Hp) (r : Addr) (ts : List Addr) (us : List Wd), Kx H H' → H r = none → H' r = some (.lst (ts.map V.ref)) → TAt H' ts us → Once ws us → Q (.ref r) H') ∧
  ((80 < ws.length ∨ ∃ x ∈ ws, ¬ x.ok) → ∀ H', Kx H H' → E (.ref cB) none H') ∧
  (ws.length ≤ 80 → (∀ x ∈ ws, x.ok) → ¬ Alike ws → ∀ H', Kx H H' → E (.ref cU) none H')
theorem ok_checked_words {cB cU : Addr} (D : DefT K mg "checked_words" st_checked_words c) (f_copied_words : CalX P w K mg base 5 "copied_words" (sp_copied_words K cB)) (f_each_once : CalX P w K mg base 1 "each_once" (sp_each_once K cU)) : CalX P w K mg base 6 "checked_words" (sp_checked_words K cB cU) := by
  refine calX_of D sc_checked_words (fun _ _ _ _ _ _ us hl => match us, hl with | [_], _ => rfl) (fun vs H Q E h => ?_) (fun f A outer s H vs Q E hr h => ?_)
  · obtain ⟨l, ws, rfl, _⟩ := h
    rfl
  · obtain ⟨l, ws, rfl, hw, h1000, q, qb, qu⟩ := h
    have nd := sc_checked_words.nd
    refine ⟨_, (pss_one (ps_ret (pe_cX f_each_once hr (by decide) (by rfl) (takes_of rfl rfl rfl rfl) (pa_cons (pe_cX f_copied_words hr (by decide) (by rfl) (takes_of rfl rfl rfl rfl) (pa_cons (pv 0) pa_nil)) pa_nil)))), ?_⟩
    refine ⟨_, rfl, l, ws, rfl, hw, h1000, fun h80 hok H1 r ts k1 nr hr1 ht1 => ?_, qb⟩
    refine ⟨r, ts, ws, rfl, sq_of hr1, ht1, by omega, hok, fun hal H2 r2 ts2 us k2 nr2 hr2 ht2 ho => ?_, fun hal H2 k2 => qu h80 hok hal H2 (k1.trans k2)⟩
    exact q h80 hok hal H2 r2 ts2 us (k1.trans k2) (k1.f _ nr2) hr2 ht2 ho
/-- .. where it does not raise -/
def sp_checked_words0 (K : PySem.W.Frag) : Sp := fun vs H Q _ => ∃ (l : Addr) (ws : List Wd), vs = [.ref l] ∧ WsAt K H l ws ∧ ws.length ≤ 80 ∧ (∀ x ∈ ws, x.ok) ∧ Alike ws ∧
  ∀ (H' : Hp) (r : Addr) (ts : List Addr) (us : List Wd), Kx H H' → H r = none → H' r = some (.lst (ts.map V.ref)) → TAt H' ts us → Once ws us → Q (.ref r) H'
theorem checked0 {cB cU : Addr} (f : CalX P w K mg base 6 "checked_words" (sp_checked_words K cB cU)) : C8.Cal P w K mg base 6 "checked_words" (sp_checked_words0 K) [] :=
  f.cal fun vs H Q E ⟨l, ws, e, hw, h80, hok, hal, q⟩ => ⟨l, ws, e, hw, by omega, fun _ _ _ => q, fun z => by
    rcases z with z | ⟨x, hx, z⟩
    · omega
    · exact absurd (hok x hx) z, fun _ _ z => absurd hal z⟩
end
end CH
end

section
set_option Elab.async false
set_option linter.all false
set_option maxRecDepth 100000
set_option maxHeartbeats 4000000
namespace CH
open PySem PySem.Spec PyProof.Rows L2
open GxR (TabB TabG Tabbed)
section
variable {P : Program} {w : World} {K : PySem.W.Frag} {mg : Str → Option Value} {base : Heap} {c aA cm : Addr}
abbrev st_is_people : Stmt := top 25
abbrev nm_is_people : List Str := ["value", "before", "person"]
theorem sc_is_people : FnScope nm_is_people ["value"] (defScope st_is_people) := C8.fnScope_by (by decide +kernel)
def sp_is_people (K : PySem.W.Frag) : Sp := fun vs H Q _ => ∃ (a : Addr) (ns : List Int), vs = [.ref a] ∧ SqT K H a (ns.map V.int) ∧ Rise (-1) ns ∧ Q (.bl true) H
theorem ok_is_people (D : DefT K mg "is_people" st_is_people c) (T : Tx K mg aA) (f_is_number : C8.Cal P w K mg base 2 "is_number" sp_is_number []) : C8.Cal P w K mg base 3 "is_people" (sp_is_people K) [] := by
  refine cal_of D sc_is_people (fun _ _ _ _ _ _ us hl => match us, hl with | [_], _ => rfl) (fun vs H Q E h => ?_) (fun f A outer s H vs Q E hr h => ?_)
  · obtain ⟨a, ns, rfl, _⟩ := h
    rfl
  · obtain ⟨a, ns, rfl, ha, hri, q⟩ := h
    have nd := sc_is_people.nd
    refine ⟨_, (pss_cons (ps_if (pt_not (pt_val (pe_callB call_isi (by rfl) T.z_isinstance (by decide +kernel) (pa_cons (pv 0) (pa_cons (pe_bltn (v := .ty "tuple") (by rfl) T.z_tuple (by decide +kernel) rfl) pa_nil))))) (pss_one (ps_ret pe_bl)) pss_nil)
      (pss_cons (ps_set (i := 1) nd rfl (Or.inl rfl) (pe_un un_neg pe_int))
      (pss_cons (ps_for PassesOwn.never rfl (pi_tup (pv 0)) (pg_name (i := 2) nd rfl (Or.inl rfl)) (pss_cons (ps_if (pt_not (pt_val (C8.pe_c f_is_number hr (by decide) (by rfl) (pa_cons (pv 2) (pa_cons (pe_op op_add (pv 1) pe_int) (pa_cons (pe_op op_sub (C8.pe_gc (by rfl) T.c_PEOPLE) pe_int) pa_nil)))))) (pss_one (ps_ret pe_bl)) pss_nil)
      (pss_one (ps_set (i := 1) nd rfl (Or.inl rfl) (pv 2)))))
      (pss_one (ps_ret pe_bl))))), ?_⟩
    refine ⟨_, rfl, .ref a, .ty "tuple", .type "tuple", .type "tuple", true, rfl, .ty _, tyx_tup ha, kit_ty (by decide +kernel), true, rfl, iteF ?_⟩
    refine ⟨1, rfl, ?_⟩
    refine ⟨_, rfl, a, rfl, ⟨_, ha⟩, for_tup (K := K) (a := a) (xs := ns.map V.int) (fun i σ H2 => ∃ (b : Int) (v2 : Option V), σ = [some (.ref a), some (.int b), v2] ∧ H2 = H ∧ ((-1 : Int) :: ns)[i]? = some b)
      ⟨-1, none, rfl, rfl, rfl⟩ (fun i σ H2 _ h => ?_) ?_ ?_⟩
    · obtain ⟨_, _, _, rfl, _⟩ := h
      exact ha
    · rintro i y σ H2 hi ⟨b, v2, rfl, rfl, hb⟩
      obtain ⟨x, hx, rfl⟩ : ∃ x, ns[i]? = some x ∧ V.int x = y := by
        rw [List.getElem?_map] at hi
        exact Option.map_eq_some_iff.mp hi
      obtain ⟨r1, r2⟩ := rise_at hri hx
      refine ⟨_, rfl, _, rfl, _, _, rfl, rfl, _, _, rfl, rfl, x, b + 1, 7, rfl, true, blT ⟨r1 b hb, r2⟩, iteF ?_⟩
      refine ⟨_, rfl, x, _, rfl, rfl, ?_⟩
      simpa using hx
    · rintro σ H2 ⟨b, v2, rfl, rfl, _⟩
      exact q
abbrev st_is_meeting : Stmt := top 26
abbrev nm_is_meeting : List Str := ["value", "people", "enough", "needed"]
theorem sc_is_meeting : FnScope nm_is_meeting ["value"] (defScope st_is_meeting) := C8.fnScope_by (by decide +kernel)
def sp_is_meeting (K : PySem.W.Frag) (cm : Addr) : Sp := fun vs H Q _ => ∃ (a : Addr) (m : Mt), vs = [.ref a] ∧ MAt K H a m ∧ m.ok ∧ TabG H cm ∧ ∀ H', Kx H H' → Q (.bl true) H'
theorem ok_is_meeting (D : DefT K mg "is_meeting" st_is_meeting c) (TB : TabB base mg c cm) (T : Tx K mg aA) (f_is_number : C8.Cal P w K mg base 2 "is_number" sp_is_number []) (f_is_people : C8.Cal P w K mg base 3 "is_people" (sp_is_people K) []) :
    C8.Cal P w K mg base 4 "is_meeting" (sp_is_meeting K cm) [] := by
  refine cal_of D sc_is_meeting (fun _ _ _ _ _ _ us hl => match us, hl with | [_], _ => rfl) (fun vs H Q E h => ?_) (fun f A outer s H vs Q E hr h => ?_)
  · obtain ⟨a, m, rfl, _⟩ := h
    rfl
  · obtain ⟨a, m, rfl, ⟨p, n, ha, hp, hn⟩, hok, tg, q⟩ := h
    have nd := sc_is_meeting.nd
    have hcode : (cxOf CX0 P w K mg base nm_is_meeting "is_meeting" (defScope st_is_meeting) f (.ref c) A outer s H E).nox.env.code = .ref c := rfl
    refine ⟨_, (pss_cons (ps_if (PW.pt (pw_or (pt_not (pt_val (pe_callB call_isi (by rfl) T.z_isinstance (by decide +kernel) (pa_cons (pv 0) (pa_cons (pe_bltn (v := .ty "tuple") (by rfl) T.z_tuple (by decide +kernel) rfl) pa_nil))))) (pw_or1 (pt_cmpR op_ne (pe_callB call_len_seq (by rfl) T.z_len PySem.boot_len (pa_cons (pv 0) pa_nil)) pe_int (nomark _))))) (pss_one (ps_ret pe_bl)) pss_nil)
      (pss_cons (ps_asg (pv 0) (pg_tup (by rfl) (pgs_cons (pg_name (i := 1) nd rfl (Or.inr rfl)) (pgs_cons (pg_name (i := 2) nd rfl (Or.inl rfl)) (pgs_cons (pg_name (i := 3) nd rfl (Or.inl rfl)) pgs_nil)))))
      (pss_cons (ps_if (PW.pt (pw_or (pt_not (pt_val (C8.pe_c f_is_people hr (by decide) (by rfl) (pa_cons (pv 1) pa_nil)))) (pw_or1 (pt_not (pt_val (C8.pe_c f_is_number hr (by decide) (by rfl) (pa_cons (pv 2) (pa_cons pe_int (pa_cons (pe_callB call_len_seq (by rfl) T.z_len PySem.boot_len (pa_cons (pv 1) pa_nil)) pa_nil))))))))) (pss_one (ps_ret pe_bl)) pss_nil)
      (pss_one (ps_ret (pe_and (C8.pe_c f_is_people hr (by decide) (by rfl) (pa_cons (pv 3) pa_nil)) (pe_one (pe_allG hr (by rfl) T.z_all (by decide +kernel) TB hcode (gnS_by (sc := defScope st_is_meeting) (by decide +kernel)) (pv 3) (elt_in (y := "people") (j := 1) (gnS_by (sc := defScope st_is_meeting) (by decide +kernel)) rfl (by decide +kernel) (show (defScope st_is_meeting).names.lookup ("people" : Str) = some .cell by decide +kernel)) (fun _ => rfl))))))))), ?_⟩
    refine ⟨_, rfl, .ref a, .ty "tuple", .type "tuple", .type "tuple", true, rfl, .ty _, tyx_tup ha, kit_ty (by decide +kernel), true, rfl, iteF ?_⟩
    refine ⟨_, rfl, a, _, rfl, .inr ha, rfl, _, rfl, iteF ?_⟩
    refine ⟨_, rfl, a, _, rfl, ha, rfl, _, _, rfl, _, _, rfl, _, _, rfl, rfl, ?_⟩
    refine ⟨_, rfl, p, m.ps, rfl, hp, hok.p, true, rfl, iteF ?_⟩
    refine ⟨_, rfl, _, rfl, p, _, rfl, .inr hp, m.e, 1, _, rfl, true, blT ⟨hok.e1, ?_⟩, iteF ?_⟩
    · rw [List.length_map]
      exact hok.e2
    refine ⟨_, rfl, n, m.nds, rfl, hn, hok.n, true, rfl, iteT ?_⟩
    refine ⟨_, rfl, tg, n, _, _, rfl, .inr hn, ⟨p, _, rfl, .inr hp, flat_int _, flat_int _, rfl⟩, by rw [List.length_map], fun H2 tb => ?_⟩
    have e : (List.map (fun x => inV x (List.map V.int m.ps)) (List.map V.int m.nds)).all id = true := by
      rw [List.all_eq_true]
      intro b hb
      obtain ⟨v, hv, rfl⟩ := List.mem_map.mp hb
      obtain ⟨x, hx, rfl⟩ := List.mem_map.mp hv
      rw [inV_int]
      exact decide_eq_true (hok.sub x hx)
    show Q (.bl ((List.map (fun x => inV x (List.map V.int m.ps)) (List.map V.int m.nds)).all id)) H2
    rw [e]
    exact q H2 (Kx.tab tg tb)
abbrev st_check_meeting : Stmt := top 27
abbrev nm_check_meeting : List Str := ["meeting"]
theorem sc_check_meeting : FnScope nm_check_meeting ["meeting"] (defScope st_check_meeting) := C8.fnScope_by (by decide +kernel)
def sp_check_meeting (K : PySem.W.Frag) (cm : Addr) : Sp := fun vs H Q _ => ∃ (a : Addr) (m : Mt), vs = [.ref a] ∧ MAt K H a m ∧ m.ok ∧ TabG H cm ∧ ∀ H', Kx H H' → Q .non H'
theorem ok_check_meeting (D : DefT K mg "check_meeting" st_check_meeting c) (f_is_meeting : C8.Cal P w K mg base 4 "is_meeting" (sp_is_meeting K cm) []) : C8.Cal P w K mg base 5 "check_meeting" (sp_check_meeting K cm) [] := by
  refine cal_of D sc_check_meeting (fun _ _ _ _ _ _ us hl => match us, hl with | [_], _ => rfl) (fun vs H Q E h => ?_) (fun f A outer s H vs Q E hr h => ?_)
  · obtain ⟨a, m, rfl, _⟩ := h
    rfl
  · obtain ⟨a, m, rfl, hm, hok, tg, q⟩ := h
    refine ⟨_, (pss_one (ps_if (pt_not (pt_val (C8.pe_c f_is_meeting hr (by decide) (by rfl) (pa_cons (pv 0) pa_nil)))) (pss_one ps_never) pss_nil)), ?_⟩
    exact ⟨_, rfl, a, m, rfl, hm, hok, tg, fun H1 k1 => ⟨true, rfl, iteF (q H1 k1)⟩⟩
end
end CH
end

section
set_option Elab.async false
set_option linter.all false
set_option maxRecDepth 100000
set_option maxHeartbeats 4000000
namespace CH
open PySem PySem.Spec PyProof.Rows L2
open GxR (TabB TabG Tabbed)
section
variable {P : Program} {w : World} {K : PySem.W.Frag} {mg : Str → Option Value} {base : Heap} {c aA cc cm : Addr}
abbrev st_answers_that_count : Stmt := top 33
abbrev nm_answers_that_count : List Str := ["words", "answers", "word", "person", "hour", "answer"]
theorem sc_answers_that_count : FnScope nm_answers_that_count ["words"] (defScope st_answers_that_count) := C8.fnScope_by (by decide +kernel)
def sp_answers_that_count (K : PySem.W.Frag) : Sp := fun vs H Q _ => ∃ (l : Addr) (ts : List Addr) (ws : List Wd), vs = [.ref l] ∧ SqL K H l (ts.map V.ref) ∧ TAt H ts ws ∧ ws.length ≤ 200 ∧ Alike ws ∧
  ∀ (H' : Hp) (d : Addr) (kvs : List (List Key × V)), Kx H H' → H d = none → H' d = some (.dT kvs) → AnsD kvs (ansW ws) → Q (.ref d) H'
theorem ok_answers_that_count (D : DefT K mg "answers_that_count" st_answers_that_count c) (T : Tx K mg aA) : C8.Cal P w K mg base 1 "answers_that_count" (sp_answers_that_count K) [] := by
  refine cal_of D sc_answers_that_count (fun _ _ _ _ _ _ us hl => match us, hl with | [_], _ => rfl) (fun vs H Q E h => ?_) (fun f A outer s H vs Q E hr h => ?_)
  · obtain ⟨l, ts, us, rfl, _⟩ := h
    rfl
  · obtain ⟨l, ts, ws, rfl, hl, hw, h200, hal, q⟩ := h
    have nd := sc_answers_that_count.nd
    have hu := hu_of hr
    refine ⟨_, (pss_cons (ps_set (i := 1) nd rfl (Or.inl rfl) pe_dnewT)
      (pss_cons (ps_for PassesOwn.never rfl (pi_list (pe_callB cr_sortedWd (by rfl) T.z_sorted (by decide +kernel) (pa_cons (pv 0) pa_nil))) (pg_name (i := 2) nd rfl (Or.inl rfl)) (pss_cons (ps_asg (pe_slice sl_tup (pv 2) (po_some pe_int) po_none) (pg_tup (by rfl) (pgs_cons (pg_name (i := 3) nd rfl (Or.inl rfl)) (pgs_cons (pg_name (i := 4) nd rfl (Or.inl rfl)) (pgs_cons (pg_name (i := 5) nd rfl (Or.inl rfl)) pgs_nil)))))
      (pss_one (ps_dput hu (pv 1) (pe_tup (pa_cons (pv 3) (pa_cons (pv 4) pa_nil))) (pv 5) rfl))))
      (pss_one (ps_ret (pv 1))))), ?_⟩
    intro d nd0
    have k0 : Kx H (upd H d (.dT [])) := Kx.new nd0
    obtain ⟨qs, eq1, eq2, hqs⟩ := tat_qs (hw.k k0)
    refine ⟨_, rfl, l, ts, wkOf (upd H d (.dT [])), 4, rfl, k0.l hl, by decide, fun t ht => ?_, fun ts' r hperm hsort nr => ?_⟩
    · obtain ⟨q0, hq0, rfl⟩ := List.mem_map.mp (eq1 ▸ ht)
      have e := wkOf_eq (hqs q0 hq0)
      rw [e]
      exact ⟨st_of (hqs q0 hq0), rfl⟩
    obtain ⟨us, hus, hpm, hso⟩ := srt_of hqs (eq1.symm ▸ hperm) hsort
    rw [eq2] at hpm
    have k1 : Kx (upd H d (.dT [])) (upd (upd H d (.dT [])) r (.lst (ts'.map V.ref))) := Kx.new nr
    have hr1 : (upd (upd H d (.dT [])) r (.lst (ts'.map V.ref))) r = some (.lst (ts'.map V.ref)) := upd_same
    have hd1 := k1.dt (show (upd H d (.dT [])) d = some (.dT []) from upd_same)
    have hw1 := hus.k k1
    generalize upd (upd H d (.dT [])) r (.lst (ts'.map V.ref)) = H1 at k1 hr1 hd1 hw1 ⊢
    have k01 := k0.trans k1
    have len := paired_len hw1
    have lus : us.length ≤ 200 := by
      rw [hpm.length_eq]
      exact h200
    refine ⟨r, rfl, ⟨_, sq_of hr1⟩, for_list (K := K) (a := r) (xs := ts'.map V.ref) (fun i σ H2 => ∃ (kvs : List (List Key × V)) (v2 v3 v4 v5 : Option V), σ = [some (.ref l), some (.ref d), v2, v3, v4, v5] ∧ Kx H H2 ∧ H2 r = some (.lst (ts'.map V.ref)) ∧ TAt H2 ts' us ∧
        H2 d = some (.dT kvs) ∧ AnsD kvs (lastA (us.take i)) ∧ kvs.length ≤ i)
      ⟨[], none, none, none, none, rfl, k01, hr1, hw1, hd1, fun p o => rfl, Nat.le_refl _⟩ (fun i σ H2 _ ⟨_, _, _, _, _, _, _, hr2, _⟩ => sq_of hr2) ?_ ?_⟩
    · rintro i y σ H2 hi ⟨kvs, v2, v3, v4, v5, rfl, k2, hr2, hw2, hd2, ha2, hlk⟩
      obtain ⟨t, ht, rfl⟩ : ∃ t, ts'[i]? = some t ∧ V.ref t = y := by
        rw [List.getElem?_map] at hi
        exact Option.map_eq_some_iff.mp hi
      obtain ⟨x, hx, hs2⟩ := paired_at hw2 ht
      have hi2 : i < ts'.length := (List.getElem?_eq_some_iff.mp ht).1
      have e1 : us.take (i + 1) = us.take i ++ [x] := by rw [List.take_add_one, hx] <;> rfl
      refine ⟨_, rfl, 2, rfl, t, _, rfl, st_of hs2, not_whole2b x, fun p np => ?_⟩
      have k3 : Kx H2 (upd H2 p (.tup (cutV x.V (some 2) none))) := Kx.new np
      refine ⟨p, _, rfl, st_of upd_same, by rw [cut2b] <;> rfl, ?_⟩
      rw [cut2b]
      refine ⟨_, _, rfl, _, _, rfl, _, _, rfl, rfl, ?_⟩
      refine ⟨_, rfl, _, rfl, _, rfl, _, rfl, (by show 2 ≤ sizeLine; decide), fun k nk => ?_⟩
      have k4 : Kx (upd H2 p (.tup [.int x.p, .int x.o, .str x.a])) (upd (upd H2 p (.tup [.int x.p, .int x.o, .str x.a])) k (.tup [.int x.p, .int x.o])) := Kx.new nk
      rw [cut2b] at k3
      refine ⟨d, _, rfl, DPut.t (k := kPO x.p x.o) ((k3.trans k4).dt hd2) upd_same (lt80 (by omega)), ?_⟩
      have hd4 := (k3.trans k4).dt hd2
      refine ⟨putK kvs (kPO x.p x.o) (.str x.a), _, _, _, _, rfl, (k2.trans (k3.trans k4)).mut nd0, ?_, ((hw2.k k3).k k4).up hd4 (fun _ z => nomatch z), upd_same, fun p' o' => ?_, ?_⟩
      · have hr4 := (k3.trans k4).lst hr2
        rw [upd_ne (fun z => by rw [z, hd4] at hr4; cases hr4)]
        exact hr4
      · rw [valV_put, e1, lastA_snoc]
        by_cases e : x.p = p' ∧ x.o = o'
        · rw [if_pos e, if_pos (kPO_inj.mpr ⟨e.1.symm, e.2.symm⟩)]
          rfl
        · rw [if_neg e, if_neg (fun z => e ⟨(kPO_inj.mp z).1.symm, (kPO_inj.mp z).2.symm⟩)]
          exact ha2 p' o'
      · have := length_putK kvs (kPO x.p x.o) (.str x.a)
        omega
    · rintro σ H2 ⟨kvs, v2, v3, v4, v5, rfl, k2, hr2, hw2, hd2, ha2, hlk⟩
      rw [List.length_map, len, List.take_length] at ha2
      exact ⟨_, rfl, q H2 d kvs k2 nd0 hd2 fun p o => by rw [ha2 p o, lastA_srt hal hpm hso]⟩
abbrev st_answer_of : Stmt := top 34
abbrev nm_answer_of : List Str := ["person", "hour", "answers"]
theorem sc_answer_of : FnScope nm_answer_of ["person", "hour", "answers"] (defScope st_answer_of) := C8.fnScope_by (by decide +kernel)
def sp_answer_of : Sp := fun vs H Q _ => ∃ (d : Addr) (p o : Int) (kvs : List (List Key × V)) (f : Int → Int → Option Str), vs = [.int p, .int o, .ref d] ∧ H d = some (.dT kvs) ∧ AnsD kvs f ∧ ∀ H', Kx H H' → Q (.str ((f p o).getD "no")) H'
theorem ok_answer_of (D : DefT K mg "answer_of" st_answer_of c) : C8.Cal P w K mg base 1 "answer_of" sp_answer_of [] := by
  refine cal_of D sc_answer_of (fun _ _ _ _ _ _ us hl => match us, hl with | [_, _, _], _ => rfl) (fun vs H Q E h => ?_) (fun fa A outer s H vs Q E hr h => ?_)
  · obtain ⟨d, p, o, kvs, f, rfl, _⟩ := h
    rfl
  · obtain ⟨d, p, o, kvs, f, rfl, hd, hf, q⟩ := h
    have nd := sc_answer_of.nd
    have hu := hu_of hr
    refine ⟨_, (pss_one (ps_ret (pe_dget2 hu (pv 2) (pe_tup (pa_cons (pv 0) (pa_cons (pv 1) pa_nil))) pe_str ⟨rfl, rfl, rfl, rfl⟩))), ?_⟩
    refine ⟨_, rfl, d, rfl, .inr ⟨_, .inl hd⟩, _, rfl, _, rfl, (by show 2 ≤ sizeLine; decide), fun k nk => ?_⟩
    have k3 : Kx H (upd H k (.tup [.int p, .int o])) := Kx.new nk
    refine ⟨_, DGet.t (k := kPO p o) (k3.dt hd) upd_same, ?_⟩
    rw [hf p o]
    have e2 : ((f p o).map V.str).getD (.str "no") = .str ((f p o).getD "no") := by cases f p o <;> rfl
    rw [e2]
    exact q _ k3
abbrev st_can_be : Stmt := top 35
abbrev nm_can_be : List Str := ["meeting", "hour", "answers", "coming", "people", "enough", "needed", "ready", "person"]
theorem sc_can_be : FnScope nm_can_be ["meeting", "hour", "answers", "coming"] (defScope st_can_be) := C8.fnScope_by (by decide +kernel)
def sp_can_be (K : PySem.W.Frag) (cc : Addr) : Sp := fun vs H Q _ => ∃ (a d g : Addr) (m : Mt) (o : Int) (kvs : List (List Key × V)) (f : Int → Int → Option Str) (cs : List Str), vs = [.ref a, .int o, .ref d, .ref g] ∧ MAt K H a m ∧ m.ps.length ≤ 8 ∧ H d = some (.dT kvs) ∧ AnsD kvs f ∧
  SqT K H g (cs.map V.str) ∧ TabG H cc ∧ ∀ H', Kx H H' → Q (.bl (canB m cs fun x => (f x o).getD "no")) H'
theorem ok_can_be (D : DefT K mg "can_be" st_can_be c) (TB : TabB base mg c cc) (T : Tx K mg aA) (f_answer_of : C8.Cal P w K mg base 1 "answer_of" sp_answer_of []) : C8.Cal P w K mg base 2 "can_be" (sp_can_be K cc) [] := by
  refine cal_of D sc_can_be (fun _ _ _ _ _ _ us hl => match us, hl with | [_, _, _, _], _ => rfl) (fun vs H Q E h => ?_) (fun f A outer s H vs Q E hr h => ?_)
  · obtain ⟨a, d, g, m, o, kvs, f, cs, rfl, _⟩ := h
    rfl
  · obtain ⟨a, d, g, m, o, kvs, f, cs, rfl, ⟨p, n, ha, hp, hn⟩, h8, hd, hf, hg, tg, q⟩ := h
    have nd := sc_can_be.nd
    have hu := hu_of hr
    have hcode : (cxOf CX0 P w K mg base nm_can_be "can_be" (defScope st_can_be) ‹Addr› (.ref c) A outer s H E).nox.env.code = .ref c := rfl
    refine ⟨_, (pss_cons (ps_asg (pv 0) (pg_tup (by rfl) (pgs_cons (pg_name (i := 4) nd rfl (Or.inl rfl)) (pgs_cons (pg_name (i := 5) nd rfl (Or.inl rfl)) (pgs_cons (pg_name (i := 6) nd rfl (Or.inl rfl)) pgs_nil)))))
      (pss_cons (ps_set (i := 7) nd rfl (Or.inr rfl) (pe_lc (own := [("person", 8)]) (g := gName 8) (by rfl) nd (pi_tup (pv 4)) (blkOk_by (own := [("person", 8)]) (N := nm_can_be) (sc := defScope st_can_be) (by decide +kernel)) (fun _ _ _ _ _ => pg_name (i := 8) nd rfl (Or.inl rfl)) (fun _ _ _ _ _ => pts_one (pt_cmpR (show OpR _ (compareOp .In) (rIn K false) from op_in_seq) (C8.pe_c f_answer_of hr (by decide) (by rfl) (pa_cons (pv 8) (pa_cons (pv 1) (pa_cons (pv 2) pa_nil)))) (pv 3) (by rfl))) (fun _ _ _ _ _ => (pv 8))))
      (pss_one (ps_ret (pe_and (pe_cmpR op_ge (pe_callB call_len_seq (by rfl) T.z_len PySem.boot_len (pa_cons (pv 7) pa_nil)) (pv 5) (nomark _)) (pe_one (pe_allG hr (by rfl) T.z_all (by decide +kernel) TB hcode (gnS_by (sc := defScope st_can_be) (by decide +kernel)) (pv 6) (elt_in (y := "ready") (j := 7) (gnS_by (sc := defScope st_can_be) (by decide +kernel)) rfl (by decide +kernel) (show (defScope st_can_be).names.lookup ("ready" : Str) = some .cell by decide +kernel)) (fun _ => rfl)))))))), ?_⟩
    refine ⟨_, rfl, a, _, rfl, ha, rfl, _, _, rfl, _, _, rfl, _, _, rfl, rfl, ?_⟩
    -- ready
    refine ⟨_, rfl, p, rfl, ⟨_, hp⟩, fun D nD => ?_⟩
    have k0 : Kx H (upd H D (.lst [])) := Kx.new nD
    refine lc_tup (K := K) (a := p) (xs := m.ps.map V.int) (fun i H2 => Kx H H2 ∧ H2 D = some (.lst ((comeL (m.ps.take i) cs fun x => (f x o).getD "no").map V.int)))
      ⟨k0, upd_same⟩ (fun i H2 _ h => h.1.t hp) ?_ ?_
    · rintro i y H2 hi ⟨k2, hD2⟩
      obtain ⟨x, hx, rfl⟩ : ∃ x, m.ps[i]? = some x ∧ V.int x = y := by
        rw [List.getElem?_map] at hi
        exact Option.map_eq_some_iff.mp hi
      have e1 : m.ps.take (i + 1) = m.ps.take i ++ [x] := by rw [List.take_add_one, hx] <;> rfl
      refine ⟨rfl, _, rfl, _, rfl, _, rfl, d, x, o, kvs, f, rfl, k2.dt hd, hf, fun H3 k3 => ?_⟩
      refine ⟨_, rfl, g, _, rfl, .inr ((k2.trans k3).t hg), rfl, flat_str _, _, rfl, ?_⟩
      rw [if_neg Bool.false_ne_true, inV_str]
      have e3 : (comeL (m.ps.take (i + 1)) cs fun x => (f x o).getD "no") = (comeL (m.ps.take i) cs fun x => (f x o).getD "no") ++ (if decide ((f x o).getD "no" ∈ cs) = true then [x] else []) := by
        rw [e1]
        unfold comeL
        rw [List.filter_append]
        congr 1
        by_cases z : (f x o).getD "no" ∈ cs
        · rw [List.filter_cons_of_pos (by simpa using z), decide_eq_true z] <;> rfl
        · rw [List.filter_cons_of_neg (by simpa using z), decide_eq_false z] <;> rfl
      have hD3 := k3.lst hD2
      refine iteB (fun z => ?_) (fun z => ?_)
      · refine ⟨_, rfl, _, hD3, ?_, (k2.trans k3).mut nD, ?_⟩
        · rw [List.length_map]
          refine lt80 (Nat.lt_of_le_of_lt (List.length_filter_le _ _) ?_)
          rw [List.length_take]
          omega
        · rw [upd_same, e3, if_pos z, List.map_append] <;> rfl
      · refine ⟨k2.trans k3, ?_⟩
        rw [e3, z, if_neg Bool.false_ne_true, List.append_nil]
        exact hD3
    · rintro H2 ⟨k2, hD2⟩
      rw [List.length_map, List.take_length] at hD2
      generalize hL : (comeL m.ps cs fun x => (f x o).getD "no") = L at hD2
      have hq : ∀ H', Kx H H' → Q (.bl (decide (m.e ≤ (L.length : Int)) && m.nds.all fun x => decide (x ∈ L))) H' := fun H' k => by
        have z := q H' k
        unfold canB at z
        rw [hL] at z
        exact z
      refine ⟨_, rfl, D, _, rfl, .inl (sq_of hD2), _, rfl, _, _, rfl, rfl, _, rfl, ?_⟩
      rw [List.length_map]
      refine iteB (fun z => ?_) (fun z => ?_)
      · have z' : m.e ≤ (L.length : Int) := of_decide_eq_true z
        refine ⟨_, rfl, k2.g _ tg, n, _, _, rfl, .inr (k2.t hn), ⟨D, _, rfl, .inl (sq_of hD2), flat_int _, flat_int _, rfl⟩, by rw [List.length_map], fun H3 tb => ?_⟩
        have e : ((List.map (fun x => inV x (List.map V.int L)) (List.map V.int m.nds)).all id) = m.nds.all fun x => decide (x ∈ L) := by
          rw [List.map_map, List.all_map]
          congr 1
          funext x
          exact inV_int L
        show Q (.bl ((List.map (fun x => inV x (List.map V.int L)) (List.map V.int m.nds)).all id)) H3
        rw [e]
        have hq2 := hq H3 (k2.trans (Kx.tab (k2.g _ tg) tb))
        rw [decide_eq_true z', Bool.true_and] at hq2
        exact hq2
      · have z' : ¬ m.e ≤ (L.length : Int) := of_decide_eq_false z
        have hq2 := hq H2 k2
        rw [decide_eq_false z', Bool.false_and] at hq2
        exact hq2
end
end CH
end

section
set_option Elab.async false
set_option linter.all false
set_option maxRecDepth 100000
set_option maxHeartbeats 4000000
namespace CH
open PySem PySem.Spec PyProof.Rows L2
open GxR (TabB TabG Tabbed)
section
variable {P : Program} {w : World} {K : PySem.W.Frag} {mg : Str → Option Value} {base : Heap} {c aA cc cm : Addr}
abbrev st_hours_of : Stmt := top 36
abbrev nm_hours_of : List Str := ["meeting", "answers", "coming", "hour"]
theorem sc_hours_of : FnScope nm_hours_of ["meeting", "answers", "coming"] (defScope st_hours_of) := C8.fnScope_by (by decide +kernel)
def sp_hours_of (K : PySem.W.Frag) (cc : Addr) : Sp := fun vs H Q _ => ∃ (a d g : Addr) (m : Mt) (kvs : List (List Key × V)) (f : Int → Int → Option Str) (cs : List Str), vs = [.ref a, .ref d, .ref g] ∧ MAt K H a m ∧ m.ps.length ≤ 8 ∧ H d = some (.dT kvs) ∧ AnsD kvs f ∧
  SqT K H g (cs.map V.str) ∧ TabG H cc ∧ ∀ (H' : Hp) (r : Addr), Kx H H' → H r = none → H' r = some (.lst ((hoursL m cs fun x o => (f x o).getD "no").map V.int)) → Q (.ref r) H'
theorem body_hours_of (T : Tx K mg aA) (f_can_be : C8.Cal P w K mg base 2 "can_be" (sp_can_be K cc) []) : Bodies0 P w K mg base nm_hours_of "hours_of" st_hours_of c 2 (sp_hours_of K cc) := by
  intro fa A outer s H vs Q E hr h
  obtain ⟨a, d, g, m, kvs, f, cs, rfl, hm, h8, hd, hf, hg, tc, q⟩ := h
  have nd := sc_hours_of.nd
  refine ⟨_, (pss_one (ps_ret (pe_lc (own := [("hour", 3)]) (g := gName 3) (by rfl) nd (pi_range1 (by rfl) T.z_range (pa_cons (C8.pe_gc (by rfl) T.c_HOURS) pa_nil)) (blkOk_by (own := [("hour", 3)]) (N := nm_hours_of) (sc := defScope st_hours_of) (by decide +kernel)) (fun _ _ _ _ _ => pg_name (i := 3) nd rfl (Or.inl rfl)) (fun _ _ _ _ _ => pts_one (pt_val (C8.pe_c f_can_be hr (by decide) (by rfl) (pa_cons (pv 0) (pa_cons (pv 3) (pa_cons (pv 1) (pa_cons (pv 2) pa_nil))))))) (fun _ _ _ _ _ => (pv 3))))), ?_⟩
  refine ⟨12, rfl, by decide, by decide, fun D0 nD => ?_⟩
  have k4 : Kx H (upd H D0 (.lst [])) := Kx.new nD
  refine lc_range (lo := 0) (n := 12) (fun i H4 => Kx H H4 ∧ H4 D0 = some (.lst (((((List.range 12).take i).filter fun o => canB m cs fun x => (f x (Int.ofNat o)).getD "no").map Int.ofNat).map V.int)))
    ⟨k4, upd_same⟩ ?_ ?_
  · rintro i H4 hi ⟨k5, hD⟩
    refine ⟨rfl, _, rfl, _, rfl, _, rfl, _, rfl, a, d, g, m, 0 + (i : Int), kvs, f, cs, rfl, hm.k k5, h8, k5.dt hd, hf, k5.t hg, k5.g _ tc, fun H5 k6 => ⟨_, rfl, ?_⟩⟩
    rw [show (0 : Int) + (i : Int) = Int.ofNat i from Int.zero_add _]
    have hD5 := k6.lst hD
    have e1 := range_take (n := 12) hi
    refine iteB (fun z => ?_) (fun z => ?_)
    · refine ⟨_, rfl, _, hD5, ?_, (k5.trans k6).mut nD, ?_⟩
      · rw [List.length_map, List.length_map]
        refine lt80 (Nat.lt_of_le_of_lt (List.length_filter_le _ _) ?_)
        rw [List.length_take]
        omega
      · rw [upd_same, e1, filter_snoc, if_pos (by exact z), List.map_append, List.map_append] <;> rfl
    · refine ⟨k5.trans k6, ?_⟩
      have z' : ¬ ((canB m cs fun x => (f x (Int.ofNat i)).getD "no") = true) := by
        have z2 : (canB m cs fun x => (f x (Int.ofNat i)).getD "no") = false := z
        rw [z2]
        decide
      rw [e1, filter_snoc, if_neg (by exact z'), List.append_nil]
      exact hD5
  · rintro H4 ⟨k5, hD⟩
    exact q H4 D0 k5 nD hD
theorem len_hours_of {vs : List V} {H : Hp} {Q : VK} {E : XK} (h : sp_hours_of K cc vs H Q E) : vs.length = 3 := by
  obtain ⟨a, d, g, m, kvs, f, cs, rfl, _⟩ := h
  rfl
/-- all three are written -/
theorem ok_hours_of3 {v : V} (D : DefQ K mg "hours_of" st_hours_of [v] c) (T : Tx K mg aA) (f_can_be : C8.Cal P w K mg base 2 "can_be" (sp_can_be K cc) []) : C8.Cal P w K mg base 3 "hours_of" (sp_hours_of K cc) [] :=
  calQ_of (n := 3) (j := 1) D sc_hours_of (List.cons_ne_nil _ _) rfl (fun _ _ _ _ _ _ _ us its h1 h2 => match us, its, h1, h2 with | [_, _, _], [_], _, _ => ⟨_, rfl, rfl⟩) (fun _ _ _ _ h => len_hours_of h) (body_hours_of T f_can_be)
/-- the last one is the default -/
theorem ok_hours_of2 {v : V} (D : DefQ K mg "hours_of" st_hours_of [v] c) (T : Tx K mg aA) (f_can_be : C8.Cal P w K mg base 2 "can_be" (sp_can_be K cc) []) : C8.Cal P w K mg base 3 "hours_of" (sp_hours_of K cc) [v] :=
  calQ_of (n := 2) (j := 0) D sc_hours_of (List.cons_ne_nil _ _) rfl (fun _ _ _ _ _ _ _ us its h1 h2 => match us, its, h1, h2 with | [_, _], [_], _, _ => ⟨_, rfl, rfl⟩) (fun _ _ _ _ h => len_hours_of h) (body_hours_of T f_can_be)
end
end CH
end

section
set_option Elab.async false
set_option linter.all false
set_option maxRecDepth 100000
set_option maxHeartbeats 4000000
namespace CH
open PySem PySem.Spec PyProof.Rows L2
open GxR (TabB TabG Tabbed)
section
variable {P : Program} {w : World} {K : PySem.W.Frag} {mg : Str → Option Value} {base : Heap} {c aA cc cm : Addr}
abbrev st_jump : Stmt := top 45
abbrev nm_jump : List Str := ["hour", "old"]
theorem sc_jump : FnScope nm_jump ["hour", "old"] (defScope st_jump) := C8.fnScope_by (by decide +kernel)
def sp_jump : Sp := fun vs H Q _ => ∃ (h : Int) (x : Option Int), vs = [.int h, oldV x] ∧ Q (.int (jumpZ x h)) H
theorem ok_jump (D : DefT K mg "jump" st_jump c) (T : Tx K mg aA) : C8.Cal P w K mg base 1 "jump" sp_jump [] := by
  refine cal_of D sc_jump (fun _ _ _ _ _ _ us hl => match us, hl with | [_, _], _ => rfl) (fun vs H Q E h => ?_) (fun fa A outer s H vs Q E hr h => ?_)
  · obtain ⟨h, x, rfl, _⟩ := h
    rfl
  · obtain ⟨h, x, rfl, q⟩ := h
    have nd := sc_jump.nd
    refine ⟨_, (pss_one (ps_ret (pe_ifExp (pt_cmp (pc_isN (pv 1))) pe_int (pe_callB call_abs (by rfl) T.z_abs (by decide +kernel) (pa_cons (pe_op op_sub (pv 0) (pv 1)) pa_nil))))), ?_⟩
    cases x with
    | none => exact ⟨_, rfl, _, rfl, iteT q⟩
    | some i => exact ⟨_, rfl, _, rfl, iteF ⟨_, rfl, _, rfl, _, _, rfl, rfl, _, rfl, q⟩⟩
abbrev st_jumps_of : Stmt := top 46
abbrev nm_jumps_of : List Str := ["words", "meetings", "olds", "answers", "hour", "meeting", "old"]
theorem sc_jumps_of : FnScope nm_jumps_of ["words", "meetings", "olds"] (defScope st_jumps_of) := C8.fnScope_by (by decide +kernel)
/-- for each meeting hours and its old one -/
def jrows (ms : List Mt) (olds : List (Option Int)) (ws : List Wd) : List (List Int × Option Int) := (ms.zip olds).map fun p => (hoursL p.1 ["yes"] (ansF ws), p.2)
def sp_jumps_of (K : PySem.W.Frag) (cc : Addr) : Sp := fun vs H Q _ => ∃ (l a o : Addr) (tsw : List Addr) (us ws : List Wd) (ms : List Mt) (olds : List (Option Int)), vs = [.ref l, .ref a, .ref o] ∧ SqL K H l (tsw.map V.ref) ∧ TAt H tsw us ∧ us.length ≤ 200 ∧ Alike us ∧ ansW us = ansW ws ∧ MsAt K H a ms ∧ (∀ m ∈ ms, m.ok) ∧ ms.length ≤ 1000 ∧ SqL K H o (olds.map oldV) ∧ olds.length = ms.length ∧ TabG H cc ∧
  ∀ (H' : Hp) (r : Addr) (ds : List Addr), Kx H H' → H r = none → H' r = some (.lst (ds.map V.ref)) → JsAt H' ds (jrows ms olds ws) → ds.Nodup → (∀ d ∈ ds, H d = none) → Q (.ref r) H'
theorem ok_jumps_of (D : DefT K mg "jumps_of" st_jumps_of c) (T : Tx K mg aA) {aY : Addr} (hY : ∀ H, SqT K H aY ((["yes"] : List Str).map V.str)) (f_jump : C8.Cal P w K mg base 1 "jump" sp_jump []) (f_answers_that_count : C8.Cal P w K mg base 1 "answers_that_count" (sp_answers_that_count K) []) (f_hours_of : C8.Cal P w K mg base 3 "hours_of" (sp_hours_of K cc) [.ref aY]) : C8.Cal P w K mg base 4 "jumps_of" (sp_jumps_of K cc) [] := by
  refine cal_of D sc_jumps_of (fun _ _ _ _ _ _ us hl => match us, hl with | [_, _, _], _ => rfl) (fun vs H Q E h => ?_) (fun fa A outer s H vs Q E hr h => ?_)
  · obtain ⟨l, a, o, tsw, us, ws, ms, olds, rfl, _⟩ := h
    rfl
  · obtain ⟨l, a, o, tsw, us, ws, ms, olds, rfl, hl, hw, h200, al, eaw, hms, mok, lms, ho, lo, tc, q⟩ := h
    have nd := sc_jumps_of.nd
    refine ⟨_, (pss_cons (ps_set (i := 3) nd rfl (Or.inr rfl) (C8.pe_c f_answers_that_count hr (by decide) (by rfl) (pa_cons (pv 0) pa_nil)))
      (pss_one (ps_ret (pe_lc (own := [("meeting", 5), ("old", 6)]) (g := (gTup K 2 (gCons (gName 5) (gCons (gName 6) gNil)))) (tt := tYes) (by rfl) nd (pi_zip (by rfl) T.z_zip (pa_cons (pv 1) (pa_cons (pv 2) pa_nil))) (blkOk_by (own := [("meeting", 5), ("old", 6)]) (N := nm_jumps_of) (sc := defScope st_jumps_of) (by decide +kernel)) (fun _ _ _ _ _ => (show PG _ _ (gTup K 2 (gCons (gName 5) (gCons (gName 6) gNil))) from pg_tup (by rfl) (pgs_cons (pg_name (i := 5) nd rfl (Or.inl rfl)) (pgs_cons (pg_name (i := 6) nd rfl (Or.inr rfl)) pgs_nil)))) (fun _ _ _ _ _ => pts_nil) (fun _ _ _ _ _ => (pe_dc (own := [("hour", 4)]) (g := gName 4) (tt := tYes) (by rfl) nd (show PI _ _ _ (iList K _) from pi_list (C8.pe_c f_hours_of hr (by decide) (by rfl) (pa_cons (pv 5) (pa_cons (pv 3) pa_nil)))) (blkOk_by (own := [("hour", 4)]) (N := nm_jumps_of) (by kernel_rfl)) (fun _ _ _ _ _ => pg_name (i := 4) nd rfl (Or.inl rfl)) (fun _ _ _ _ _ => pts_nil) (fun _ _ _ _ _ => (pv 4)) (fun _ _ _ _ _ => (C8.pe_c f_jump hr (by decide) (by rfl) (pa_cons (pv 4) (pa_cons (pv 6) pa_nil)))))))))), ?_⟩
    refine ⟨_, rfl, l, tsw, us, rfl, hl, hw, h200, al, fun H1 d kvs k1 nd1 hd1 ha1 => ?_⟩
    rw [eaw] at ha1
    obtain ⟨as, hma, hmp⟩ := hms.k k1
    have len := paired_len hmp
    have ho1 := k1.l ho
    have tc1 := k1.g _ tc
    refine ⟨_, rfl, _, rfl, a, o, _, _, rfl, hma, ho1, fun D nD => ?_⟩
    refine lc_zipP (K := K) (fun i H2 => Kx H1 H2 ∧ ∃ ds : List Addr, H2 D = some (.lst (ds.map V.ref)) ∧ JsAt H2 ds ((jrows ms olds ws).take i) ∧ ds.Nodup ∧ (∀ d ∈ ds, H1 d = none ∧ d ≠ D) ∧ ds.length = i)
      (by rw [List.length_map, List.length_map, len, lo]) ⟨Kx.new nD, [], upd_same, .nil, List.nodup_nil, fun d h => absurd h (by simp), rfl⟩ (fun i H2 h => ⟨h.1.l hma, h.1.l ho1⟩) (fun _ _ => rfl) (fun i x y Tp H2 hx hy h nT => ?_) fun H2 h => ?_
    · obtain ⟨k2, ds, hD2, hds, nds, fds, lds⟩ := h
      obtain ⟨am, ham, rfl⟩ : ∃ t, as[i]? = some t ∧ V.ref t = x := by
        rw [List.getElem?_map] at hx
        exact Option.map_eq_some_iff.mp hx
      obtain ⟨old, hold, rfl⟩ : ∃ t, olds[i]? = some t ∧ oldV t = y := by
        rw [List.getElem?_map] at hy
        exact Option.map_eq_some_iff.mp hy
      obtain ⟨m, hm, hmat⟩ := paired_at hmp ham
      have mo := mok m (List.mem_of_getElem? hm)
      have hil : i < as.length := (List.getElem?_eq_some_iff.mp ham).1
      have k3 : Kx H2 (upd H2 Tp (.tup [.ref am, oldV old])) := Kx.new nT
      have hD3 := k3.lst hD2
      have hds3 := hds.k k3
      have k13 := k2.trans k3
      generalize upd H2 Tp (.tup [.ref am, oldV old]) = H3 at k3 hD3 hds3 k13 ⊢
      refine ⟨_, rfl, _, rfl, am, d, aY, m, kvs, ansW ws, ["yes"], rfl, hmat.k k13, rise_len8 mo.p, k13.dt hd1, ha1, hY _, k13.g _ tc1, fun H4 r4 k4 nr4 hr4 => ?_⟩
      rw [show (hoursL m ["yes"] fun x o => (ansW ws x o).getD "no") = hoursL m ["yes"] (ansF ws) from rfl] at hr4
      refine ⟨r4, rfl, ⟨_, sq_of hr4⟩, fun E nE => ?_⟩
      refine dc_ints (K := K) (f := fun h => .int (jumpZ old h)) (sq_of hr4) (hoursL_nodup _ _ _) nE (by have := hoursL_len m ["yes"] (ansF ws); omega) (fun _ => rfl) (fun _ => rfl) (fun h H5 hh k5 Q' hq => ⟨_, rfl, _, rfl, h, old, rfl, hq _ (Kx.refl _)⟩) fun H5 k5 hE5 => ?_
      have k35 := k4.trans k5
      have hD5 := k35.lst hD3
      have nED : E ≠ D := fun z => by rw [z, k4.lst hD3] at nE; cases nE
      have hrow : (jrows ms olds ws)[i]? = some (hoursL m ["yes"] (ansF ws), old) := by
        unfold jrows
        rw [List.getElem?_map, zip_at hm hold] <;> rfl
      refine ⟨_, hD5, by rw [List.length_map]; exact lt80 (by have := paired_len hmp; omega), (k13.trans k35).mut nD, ds ++ [E], by rw [upd_same, List.map_append] <;> rfl, ?_, ?_, fun y hy => ?_, by rw [List.length_append, lds] <;> rfl⟩
      · rw [List.take_add_one, hrow]
        have hds5 := hds3.k k35
        have base : JsAt H5 (ds ++ [E]) ((jrows ms olds ws).take i ++ [(hoursL m ["yes"] (ansF ws), old)]) := paired_snoc hds5 ⟨hE5, hoursL_nodup _ _ _, hoursL_len _ _ _, fun h hh => hoursL_mem hh⟩
        refine paired_imp_mem (fun y hy b z => ⟨?_, z.2⟩) base
        rw [upd_ne]
        · exact z.1
        · rcases List.mem_append.mp hy with hy | hy
          · exact (fds y hy).2
          · rw [List.mem_singleton.mp hy]
            exact nED
      · refine List.nodup_append.mpr ⟨nds, List.nodup_cons.mpr ⟨by simp, List.nodup_nil⟩, fun x hx y hy e => ?_⟩
        rw [List.mem_singleton.mp hy] at e
        subst e
        obtain ⟨j, hj⟩ := List.mem_iff_getElem?.mp hx
        obtain ⟨rr, _, h1, _⟩ := paired_at (hds3.k k4) hj
        rw [nE] at h1
        cases h1
      · rcases List.mem_append.mp hy with hy | hy
        · exact fds y hy
        · rw [List.mem_singleton.mp hy]
          exact ⟨(k13.trans k4).f _ nE, nED⟩
    · obtain ⟨k2, ds, hD2, hds, nds, fds, lds⟩ := h
      have lj : (jrows ms olds ws).length = (as.map V.ref).length := by
        unfold jrows
        rw [List.length_map, List.length_zip, List.length_map, len, lo, Nat.min_self]
      rw [← lj, List.take_length] at hds
      exact q H2 D ds (k1.trans k2) (k1.f _ nD) hD2 hds nds fun d hd => k1.f _ (fds d hd).1
end
end CH
end

section
set_option Elab.async false
set_option linter.all false
set_option maxRecDepth 100000
set_option maxHeartbeats 4000000
namespace CH
open PySem PySem.Spec PyProof.Rows L2
open GxR (TabB TabG Tabbed)
/-- where the parts of seats stand -/
structure Sa where
  s : Addr
  dx : Addr
  J : Addr
  Hh : Addr
  Pp : Addr
  Rr : Addr
  Ho : Addr
  ds : List Addr
def Sa.flds (a : Sa) : List (Str × V) := [("jumps", .ref a.J), ("hours", .ref a.Hh), ("prices", .ref a.Pp), ("rents", .ref a.Rr), ("holders", .ref a.Ho)]
/-- the dict of holders -/
def HoldD (kvs : List (Key × V)) (hf : Int → Option Nat) : Prop := ∀ h : Int, valV kvs (Sum.inl h) = (hf h).map fun (i : Nat) => V.int (i : Int)
structure SeatsAt (cSe : Addr) (H : Hp) (a : Sa) (rows : Rows) (hs : List (Option Int)) (ps rs : List Int) (kvs : List (Key × V)) (hf : Int → Option Nat) : Prop where
  ob : H a.s = some (.ins cSe a.dx a.flds)
  hJ : H a.J = some (.lst (a.ds.map V.ref))
  hd : JsAt H a.ds rows
  hh : H a.Hh = some (.lst (hs.map oldV))
  hp : H a.Pp = some (.lst (ps.map V.int))
  hr : H a.Rr = some (.lst (rs.map V.int))
  ho : H a.Ho = some (.dK kvs)
  hf_ : HoldD kvs hf
  n1 : a.J ≠ a.Hh ∧ a.J ≠ a.Pp ∧ a.J ≠ a.Rr
  n2 : a.Hh ≠ a.Pp ∧ a.Hh ≠ a.Rr ∧ a.Pp ≠ a.Rr
  n3 : a.Ho ∉ a.ds
  nd : a.ds.Nodup
theorem putF_app {f : Str} {v : V} : ∀ {fs : List (Str × V)}, (∀ p ∈ fs, p.1 ≠ f) → putF f v fs = fs ++ [(f, v)]
  | [], _ => rfl
  | (g, u) :: r, h => by
    have e : putF f v ((g, u) :: r) = if g = f then (g, v) :: r else (g, u) :: putF f v r := rfl
    rw [e, if_neg (h (g, u) List.mem_cons_self), putF_app fun p hp => h p (List.mem_cons_of_mem _ hp)]
    rfl
theorem putF_new {f : Str} {v : V} {fs : List (Str × V)} (ks : List Str) (e : fs.map (·.1) = ks) (h : ∀ g ∈ ks, g ≠ f) : putF f v fs = fs ++ [(f, v)] := putF_app fun p hp => h p.1 (e ▸ List.mem_map.mpr ⟨p, hp, rfl⟩)
theorem lc_same {K : PySem.W.Frag} {a : Addr} {xs : List V} {v : V} {s : Nat} {vs : List Nat} {σ : L2.St} {H0 : Hp} {D : Addr} {Qd : Hp → Prop} (hl : SqL K H0 a xs) (nD : H0 D = none) (h4 : xs.length ≤ 4000)
    (hw : ∀ x, wipe ((wipe σ vs).set s (some x)) vs = wipe σ vs) (hd : ∀ H3, Kx H0 H3 → H3 D = some (.lst (List.replicate xs.length v)) → Qd H3) :
    ∃ W : Nat → Nat → Hp → Prop, (∃ m, W 0 m (upd H0 D (.lst []))) ∧ ∀ i1 m H, W i1 m H →
      ((Itl K a).stop i1 H ∧ Qd H) ∨ ((Itl K a).go i1 H ∧ ∃ Nx : Hp → Prop, (∀ H', Nx H' → ∃ m', m' < m ∧ W (i1 + 1) m' H') ∧ ∀ x H', (Itl K a).yld i1 H x H' → gName s x (wipe σ vs) H' fun σ2 H2 => wipe σ2 vs = wipe σ vs ∧ tYes σ2 H2 fun b H3 =>
        if b = true then tC v σ2 H3 fun y H4 => ∃ acc, H4 D = some (.lst acc) ∧ acc.length < sizeLine ∧ Nx (upd H4 D (.lst (acc ++ [y]))) else Nx H3) := by
  refine lc_list (K := K) (a := a) (xs := xs) (fun j H2 => Kx H0 H2 ∧ H2 D = some (.lst (List.replicate j v))) ⟨Kx.new nD, upd_same⟩ (fun j H2 _ h => h.1.l hl) ?_ ?_
  · rintro j y H2 hj ⟨k2, hD⟩
    have hjl := (List.getElem?_eq_some_iff.mp hj).1
    refine ⟨hw _, yesT ⟨_, hD, by rw [List.length_replicate]; exact lt80 (by omega), k2.mut nD, ?_⟩⟩
    rw [upd_same, List.replicate_succ']
  · rintro H2 ⟨k2, hD⟩
    exact hd H2 k2 hD
section
variable {P : Program} {w : World} {K : PySem.W.Frag} {mg : Str → Option Value} {base : Heap} {c aA cc cm cSe : Addr}
abbrev st_Seats_init : Stmt := inClass (top 48) 0
abbrev nm_Seats_init : List Str := ["self", "jumps", "_"]
theorem sc_Seats_init : FnScope nm_Seats_init ["self", "jumps"] (defScope st_Seats_init) := C8.fnScope_by (by decide +kernel)
abbrev st_Seats_gap : Stmt := inClass (top 48) 1
abbrev nm_Seats_gap : List Str := ["self", "meeting", "hour"]
theorem sc_Seats_gap : FnScope nm_Seats_gap ["self", "meeting", "hour"] (defScope st_Seats_gap) := C8.fnScope_by (by decide +kernel)
def sp_Seats_init (cSe : Addr) : Sp := fun vs H Q _ => ∃ (H0 : Hp) (x dx J : Addr) (ds : List Addr) (rows : Rows), vs = [.ref x, .ref J] ∧ H = upd (upd H0 dx (.own x)) x (.ins cSe dx []) ∧ H0 x = none ∧ H0 dx = none ∧ dx ≠ x ∧ H0 J = some (.lst (ds.map V.ref)) ∧ JsAt H0 ds rows ∧ ds.Nodup ∧ rows.length ≤ 1000 ∧
  ∀ (H' : Hp) (a : Sa), Kx H0 H' → a.s = x → a.ds = ds → H0 a.Hh = none → H0 a.Pp = none → H0 a.Rr = none → H0 a.Ho = none → SeatsAt cSe H' a rows (List.replicate rows.length none) (List.replicate rows.length 0) (List.replicate 12 0) [] (fun _ => none) → Q .non H'
theorem ok_Seats_init (D : MakT K mg "Seats" cSe "Seats.__init__" st_Seats_init c) (T : Tx K mg aA) (e_Seats : Own K mg "Seats" cSe) (n1 : NoAttr K cSe "jumps") (n2 : NoAttr K cSe "hours") (n3 : NoAttr K cSe "prices") (n4 : NoAttr K cSe "rents") (n5 : NoAttr K cSe "holders") : C8.Mak P w K mg base 1 "Seats" cSe (sp_Seats_init cSe) [] := by
  refine mak_of D sc_Seats_init (fun _ _ _ _ _ _ us hl => match us, hl with | [_, _], _ => rfl) (fun vs H Q E h => ?_) (fun f A outer s H vs Q E hr h => ?_)
  · obtain ⟨H0, x, dx, J, ds, rows, rfl, _⟩ := h
    rfl
  · obtain ⟨H0, x, dx, J, ds, rows, rfl, rfl, nx, ndx, ndxx, hJ, hds, nd0, l1000, q⟩ := h
    have nd := sc_Seats_init.nd
    refine ⟨_, (pss_cons (ps_fld (pv 0) (pv 1) rfl)
      (pss_cons (ps_fld (pv 0) (pe_lc (own := [("_", 2)]) (g := gName 2) (tt := tYes) (by rfl) nd (pi_list (pv 1)) (blkOk_by (own := [("_", 2)]) (N := nm_Seats_init) (sc := defScope st_Seats_init) (by decide +kernel)) (fun _ _ _ _ _ => pg_name (i := 2) nd rfl (Or.inl rfl)) (fun _ _ _ _ _ => pts_nil) (fun _ _ _ _ _ => pe_non)) rfl)
      (pss_cons (ps_fld (pv 0) (pe_lc (own := [("_", 2)]) (g := gName 2) (tt := tYes) (by rfl) nd (pi_list (pv 1)) (blkOk_by (own := [("_", 2)]) (N := nm_Seats_init) (sc := defScope st_Seats_init) (by decide +kernel)) (fun _ _ _ _ _ => pg_name (i := 2) nd rfl (Or.inl rfl)) (fun _ _ _ _ _ => pts_nil) (fun _ _ _ _ _ => pe_int)) rfl)
      (pss_cons (ps_fld (pv 0) (pe_lc (own := [("_", 2)]) (g := gName 2) (tt := tYes) (by rfl) nd (pi_range1 (by rfl) T.z_range (pa_cons (C8.pe_gc (by rfl) T.c_HOURS) pa_nil)) (blkOk_by (own := [("_", 2)]) (N := nm_Seats_init) (sc := defScope st_Seats_init) (by decide +kernel)) (fun _ _ _ _ _ => pg_name (i := 2) nd rfl (Or.inl rfl)) (fun _ _ _ _ _ => pts_nil) (fun _ _ _ _ _ => pe_int)) rfl)
      (pss_one (ps_fld (pv 0) pe_dnewK rfl)))))), ?_⟩
    have k0 : Kx H0 (upd (upd H0 dx (.own x)) x (.ins cSe dx [])) := (Kx.new ndx).mut nx
    have hx0 : (upd (upd H0 dx (.own x)) x (.ins cSe dx [])) x = some (.ins cSe dx []) := upd_same
    generalize upd (upd H0 dx (.own x)) x (.ins cSe dx []) = H1 at k0 hx0 ⊢
    have nJx : J ≠ x := fun z => by rw [z, nx] at hJ; cases hJ
    -- jumps
    refine ⟨_, rfl, _, rfl, x, cSe, dx, _, rfl, hx0, e_Seats.cl, n1, (by show 0 < 1000; decide), ?_⟩
    rw [putF_app (fs := []) (fun p hp => absurd hp (by simp)), List.nil_append]
    have k1 : Kx H0 (upd H1 x (.ins cSe dx [("jumps", .ref J)])) := k0.mut nx
    have hx1 : (upd H1 x (.ins cSe dx [("jumps", .ref J)])) x = some (.ins cSe dx [("jumps", .ref J)]) := upd_same
    generalize upd H1 x (.ins cSe dx [("jumps", .ref J)]) = H2 at k1 hx1 ⊢
    have len := paired_len hds
    -- hours
    refine ⟨_, rfl, J, rfl, ⟨_, sq_of (k1.lst hJ)⟩, fun D1 nD1 => ?_⟩
    refine lc_same (K := K) (sq_of (k1.lst hJ)) nD1 (by rw [List.length_map, len]; omega) (fun _ => rfl) fun H3 k3 hD1 => ?_
    rw [List.length_map, len] at hD1
    have hx3 := k3.o _ _ hx1 fun ps z => nomatch z
    refine ⟨_, rfl, x, cSe, dx, _, rfl, hx3, e_Seats.cl, n2, (by show 1 < 1000; decide), ?_⟩
    rw [putF_new ["jumps"] rfl (by decide +kernel)]
    have k4 : Kx H0 (upd H3 x (.ins cSe dx [("jumps", .ref J), ("hours", .ref D1)])) := (k1.trans k3).mut nx
    have hx4 : (upd H3 x (.ins cSe dx [("jumps", .ref J), ("hours", .ref D1)])) x = some (.ins cSe dx [("jumps", .ref J), ("hours", .ref D1)]) := upd_same
    have nD1x : D1 ≠ x := fun z => by rw [z, hx3] at hD1; cases hD1
    have hD14 : (upd H3 x (.ins cSe dx [("jumps", .ref J), ("hours", .ref D1)])) D1 = some (.lst (List.replicate rows.length .non)) := by rw [upd_ne nD1x]; exact hD1
    have nD10 := k1.f _ nD1
    rw [show ([("jumps", V.ref J)] : List (Str × V)) ++ ([(("hours" : Str), V.ref D1)] : List (Str × V)) = ([("jumps", .ref J), ("hours", .ref D1)] : List (Str × V)) from rfl]
    generalize upd H3 x (.ins cSe dx [("jumps", .ref J), ("hours", .ref D1)]) = H4 at k4 hx4 hD14 ⊢
    -- prices
    refine ⟨_, rfl, J, rfl, ⟨_, sq_of (k4.lst hJ)⟩, fun D2 nD2 => ?_⟩
    refine lc_same (K := K) (sq_of (k4.lst hJ)) nD2 (by rw [List.length_map, len]; omega) (fun _ => rfl) fun H5 k5 hD2 => ?_
    rw [List.length_map, len] at hD2
    have hx5 := k5.o _ _ hx4 fun ps z => nomatch z
    have hD15 := k5.lst hD14
    have nD21 : D1 ≠ D2 := fun z => by rw [← z, hD14] at nD2; cases nD2
    have nD20 := k4.f _ nD2
    have nD2x : D2 ≠ x := fun z => by rw [z, hx5] at hD2; cases hD2
    refine ⟨_, rfl, x, cSe, dx, _, rfl, hx5, e_Seats.cl, n3, (by show 2 < 1000; decide), ?_⟩
    rw [putF_new ["jumps", "hours"] rfl (by decide +kernel)]
    rw [show ([("jumps", V.ref J), (("hours" : Str), V.ref D1)] : List (Str × V)) ++ ([(("prices" : Str), V.ref D2)] : List (Str × V)) = ([("jumps", .ref J), ("hours", .ref D1), ("prices", .ref D2)] : List (Str × V)) from rfl]
    have k6 : Kx H0 (upd H5 x (.ins cSe dx [("jumps", .ref J), ("hours", .ref D1), ("prices", .ref D2)])) := (k4.trans k5).mut nx
    have hx6 : (upd H5 x (.ins cSe dx [("jumps", .ref J), ("hours", .ref D1), ("prices", .ref D2)])) x = some (.ins cSe dx [("jumps", .ref J), ("hours", .ref D1), ("prices", .ref D2)]) := upd_same
    have hD16 : (upd H5 x (.ins cSe dx [("jumps", .ref J), ("hours", .ref D1), ("prices", .ref D2)])) D1 = some (.lst (List.replicate rows.length .non)) := by rw [upd_ne nD1x]; exact hD15
    have hD26 : (upd H5 x (.ins cSe dx [("jumps", .ref J), ("hours", .ref D1), ("prices", .ref D2)])) D2 = some (.lst (List.replicate rows.length (.int 0))) := by rw [upd_ne nD2x]; exact hD2
    generalize upd H5 x (.ins cSe dx [("jumps", .ref J), ("hours", .ref D1), ("prices", .ref D2)]) = H6 at k6 hx6 hD16 hD26 ⊢
    -- rents
    refine ⟨12, rfl, by decide, by decide, fun D3 nD3 => ?_⟩
    refine lc_range (lo := 0) (n := 12) (fun i H7 => Kx H6 H7 ∧ H7 D3 = some (.lst (List.replicate i (.int 0)))) ⟨Kx.new nD3, upd_same⟩ ?_ ?_
    · rintro i H7 hi ⟨k7, hD⟩
      refine ⟨rfl, ⟨_, hD, by rw [List.length_replicate]; exact lt80 (by omega), k7.mut nD3, ?_⟩⟩
      rw [upd_same, List.replicate_succ']
    rintro H7 ⟨k7, hD3⟩
    have hx7 := k7.o _ _ hx6 fun ps z => nomatch z
    have hD17 := k7.lst hD16
    have hD27 := k7.lst hD26
    have nD31 : D1 ≠ D3 := fun z => by rw [← z, hD16] at nD3; cases nD3
    have nD32 : D2 ≠ D3 := fun z => by rw [← z, hD26] at nD3; cases nD3
    have nD30 := k6.f _ nD3
    have nD3x : D3 ≠ x := fun z => by rw [z, hx7] at hD3; cases hD3
    refine ⟨_, rfl, x, cSe, dx, _, rfl, hx7, e_Seats.cl, n4, (by show 3 < 1000; decide), ?_⟩
    rw [putF_new ["jumps", "hours", "prices"] rfl (by decide +kernel)]
    rw [show ([("jumps", V.ref J), (("hours" : Str), V.ref D1), (("prices" : Str), V.ref D2)] : List (Str × V)) ++ ([(("rents" : Str), V.ref D3)] : List (Str × V)) = ([("jumps", .ref J), ("hours", .ref D1), ("prices", .ref D2), ("rents", .ref D3)] : List (Str × V)) from rfl]
    have k8 : Kx H0 (upd H7 x (.ins cSe dx [("jumps", .ref J), ("hours", .ref D1), ("prices", .ref D2), ("rents", .ref D3)])) := (k6.trans k7).mut nx
    have hx8 : (upd H7 x (.ins cSe dx [("jumps", .ref J), ("hours", .ref D1), ("prices", .ref D2), ("rents", .ref D3)])) x = some (.ins cSe dx [("jumps", .ref J), ("hours", .ref D1), ("prices", .ref D2), ("rents", .ref D3)]) := upd_same
    have hD18 : (upd H7 x (.ins cSe dx [("jumps", .ref J), ("hours", .ref D1), ("prices", .ref D2), ("rents", .ref D3)])) D1 = some (.lst (List.replicate rows.length .non)) := by rw [upd_ne nD1x]; exact hD17
    have hD28 : (upd H7 x (.ins cSe dx [("jumps", .ref J), ("hours", .ref D1), ("prices", .ref D2), ("rents", .ref D3)])) D2 = some (.lst (List.replicate rows.length (.int 0))) := by rw [upd_ne nD2x]; exact hD27
    have hD38 : (upd H7 x (.ins cSe dx [("jumps", .ref J), ("hours", .ref D1), ("prices", .ref D2), ("rents", .ref D3)])) D3 = some (.lst (List.replicate 12 (.int 0))) := by rw [upd_ne nD3x]; exact hD3
    generalize upd H7 x (.ins cSe dx [("jumps", .ref J), ("hours", .ref D1), ("prices", .ref D2), ("rents", .ref D3)]) = H8 at k8 hx8 hD18 hD28 hD38 ⊢
    -- holders
    intro D4 nD4
    have k9 : Kx H8 (upd H8 D4 (.dK [])) := Kx.new nD4
    have hx9 := k9.o _ _ hx8 fun ps z => nomatch z
    have hD19 := k9.lst hD18
    have hD29 := k9.lst hD28
    have hD39 := k9.lst hD38
    have hD49 : (upd H8 D4 (.dK [])) D4 = some (.dK []) := upd_same
    have k09 := k8.trans k9
    have nD40 := k8.f _ nD4
    have nD4x : D4 ≠ x := fun z => by rw [z, hx8] at nD4; cases nD4
    generalize upd H8 D4 (.dK []) = H9 at k09 hx9 hD19 hD29 hD39 hD49 ⊢
    refine ⟨_, rfl, x, cSe, dx, _, rfl, hx9, e_Seats.cl, n5, (by show 4 < 1000; decide), ?_⟩
    rw [putF_new ["jumps", "hours", "prices", "rents"] rfl (by decide +kernel)]
    have k10 := k09.mut (u := .ins cSe dx (Sa.flds ⟨x, dx, J, D1, D2, D3, D4, ds⟩)) nx
    refine q _ ⟨x, dx, J, D1, D2, D3, D4, ds⟩ k10 rfl rfl nD10 nD20 nD30 nD40 ⟨upd_same, k10.lst hJ, hds.k k10, ?_, ?_, ?_, ?_, fun h => rfl, ⟨?_, ?_, ?_⟩, ⟨nD21, nD31, nD32⟩, fun z => ?_, nd0⟩
    · rw [upd_ne nD1x, List.map_replicate]
      exact hD19
    · rw [upd_ne nD2x, List.map_replicate]
      exact hD29
    · rw [upd_ne nD3x, List.map_replicate]
      exact hD39
    · rw [upd_ne nD4x]
      exact hD49
    · exact fun z => by
        have z' : J = D1 := z
        rw [← z', hJ] at nD10
        cases nD10
    · exact fun z => by
        have z' : J = D2 := z
        rw [← z', hJ] at nD20
        cases nD20
    · exact fun z => by
        have z' : J = D3 := z
        rw [← z', hJ] at nD30
        cases nD30
    · obtain ⟨i, hi⟩ := List.mem_iff_getElem?.mp z
      obtain ⟨r, _, h1, _⟩ := paired_at hds hi
      rw [show D4 = D4 from rfl] at h1
      exact absurd (h1.symm.trans nD40) (by simp)
end
end CH
end

section
set_option Elab.async false
set_option linter.all false
set_option maxRecDepth 100000
set_option maxHeartbeats 4000000
namespace CH
open PySem PySem.Spec PyProof.Rows L2
open GxR (TabB TabG Tabbed)
/-- the dicts, locked or not -/
def JL (H : Hp) (ds : List Addr) (rows : Rows) : Prop := Paired (fun d r => Rd H d (.dK (jrow r)) ∧ r.1.Nodup ∧ r.1.length ≤ 12 ∧ ∀ h ∈ r.1, 0 ≤ h ∧ h ≤ 11) ds rows
theorem JsAt.jl {H : Hp} {ds : List Addr} {rows : Rows} (h : JsAt H ds rows) : JL H ds rows := paired_imp (fun _ _ z => ⟨.inl z.1, z.2⟩) h
theorem JL.k {H H' : Hp} {ds : List Addr} {rows : Rows} (k : Kx H H') (h : JL H ds rows) : JL H' ds rows := paired_imp (fun _ _ z => ⟨k.rd (fun ps q => nomatch q) z.1, z.2⟩) h
/-- what of seats is read -/
structure SeatsR (cSe : Addr) (H : Hp) (a : Sa) (rows : Rows) (ps rs : List Int) : Prop where
  ob : H a.s = some (.ins cSe a.dx a.flds)
  hJ : H a.J = some (.lst (a.ds.map V.ref))
  hd : JL H a.ds rows
  hp : H a.Pp = some (.lst (ps.map V.int))
  hr : H a.Rr = some (.lst (rs.map V.int))
  l2 : ps.length = rows.length
  l3 : rs.length = 12
theorem SeatsR.k {cSe : Addr} {H H' : Hp} {a : Sa} {rows : Rows} {ps rs : List Int} (k : Kx H H') (h : SeatsR cSe H a rows ps rs) : SeatsR cSe H' a rows ps rs :=
  ⟨k.o _ _ h.ob (fun ps z => nomatch z), k.lst h.hJ, h.hd.k k, k.lst h.hp, k.lst h.hr, h.l2, h.l3⟩
theorem fld_jumps (a : Sa) : a.flds.lookup ("jumps" : Str) = some (.ref a.J) := rfl
theorem fld_prices (a : Sa) : a.flds.lookup ("prices" : Str) = some (.ref a.Pp) := rfl
theorem fld_rents (a : Sa) : a.flds.lookup ("rents" : Str) = some (.ref a.Rr) := rfl
theorem fld_hours (a : Sa) : a.flds.lookup ("hours" : Str) = some (.ref a.Hh) := rfl
theorem fld_holders (a : Sa) : a.flds.lookup ("holders" : Str) = some (.ref a.Ho) := rfl
theorem canAt_of {rows : Rows} {i : Nat} {r : List Int × Option Int} (h : rows[i]? = some r) : canAt rows i = r.1 ∧ ∀ x, cost rows i x = jumpZ r.2 x := by
  unfold canAt cost
  rw [List.getD_eq_getElem?_getD, h]
  exact ⟨rfl, fun x => rfl⟩
section
variable {P : Program} {w : World} {K : PySem.W.Frag} {mg : Str → Option Value} {base : Heap} {c aA cc cm cSe : Addr}
def sp_gap (cSe : Addr) : Sp := fun vs H Q _ => ∃ (a : Sa) (rows : Rows) (ps rs : List Int) (i : Nat) (h : Int), vs = [.ref a.s, .int (i : Int), .int h] ∧ SeatsR cSe H a rows ps rs ∧ i < rows.length ∧ h ∈ canAt rows i ∧ Q (.int (cost rows i h - pr ps i - rn rs h)) H
theorem ok_gap (D : MetT K cSe "gap" "Seats.gap" st_Seats_gap c) (e_Seats : Own K mg "Seats" cSe) (n1 : NoAttr K cSe "jumps") (n3 : NoAttr K cSe "prices") (n4 : NoAttr K cSe "rents") : C8.Met P w K mg base 1 cSe "gap" (sp_gap cSe) [] := by
  refine met_of D sc_Seats_gap (fun _ _ _ _ _ _ us hl => match us, hl with | [_, _, _], _ => rfl) (fun vs H Q E h => ?_) (fun f A outer s H vs Q E hr h => ?_)
  · obtain ⟨a, rows, ps, rs, i, h, rfl, _⟩ := h
    rfl
  · obtain ⟨a, rows, ps, rs, i, h, rfl, S, hi, hh, q⟩ := h
    have nd := sc_Seats_gap.nd
    have hu := hu_of hr
    refine ⟨_, (pss_one (ps_ret (pe_op op_sub (pe_op op_sub (pe_dget hu (pe_ix ix_list (pe_fld (pv 0) rfl) (pv 1) (fun _ _ => rfl)) (pv 2) (fun _ _ => rfl)) (pe_ix ix_list (pe_fld (pv 0) rfl) (pv 1) (fun _ _ => rfl))) (pe_ix ix_list (pe_fld (pv 0) rfl) (pv 2) (fun _ _ => rfl))))), ?_⟩
    obtain ⟨d, hd⟩ : ∃ d, a.ds[i]? = some d := ⟨_, List.getElem?_eq_getElem (by rw [paired_len S.hd]; exact hi)⟩
    obtain ⟨r, hrr, hrd, _, _, hin⟩ := paired_at S.hd hd
    obtain ⟨e1, e2⟩ := canAt_of hrr
    rw [e1] at hh
    have hb := hin h hh
    refine ⟨_, rfl, a.s, cSe, a.dx, _, _, rfl, S.ob, e_Seats.cl, n1, fld_jumps a, _, rfl, a.J, _, _, .ref d, rfl, rfl, sq_of S.hJ, atI_nat (by rw [List.getElem?_map, hd] <;> rfl), _, rfl, d, .int (jumpZ r.2 h), rfl, ?_, ?_⟩
    · exact .inl ⟨jrow r, Sum.inl h, hrd, rfl, by rw [jrow_get, if_pos hh]⟩
    have hps : (ps.map V.int)[i]? = some (.int (pr ps i)) := by
      have hl : i < ps.length := by rw [S.l2]; exact hi
      unfold pr
      rw [List.getElem?_map, List.getElem?_eq_getElem hl, List.getD_eq_getElem?_getD, List.getElem?_eq_getElem hl] <;> rfl
    have hrs : (rs.map V.int)[h.toNat]? = some (.int (rn rs h)) := by
      have hl : h.toNat < rs.length := by rw [S.l3]; omega
      unfold rn
      rw [List.getElem?_map, List.getElem?_eq_getElem hl, List.getD_eq_getElem?_getD, List.getElem?_eq_getElem hl] <;> rfl
    refine ⟨_, rfl, a.s, cSe, a.dx, _, _, rfl, S.ob, e_Seats.cl, n3, fld_prices a, _, rfl, a.Pp, _, _, .int (pr ps i), rfl, rfl, sq_of S.hp, atI_nat hps, _, _, rfl, rfl, ?_⟩
    refine ⟨_, rfl, a.s, cSe, a.dx, _, _, rfl, S.ob, e_Seats.cl, n4, fld_rents a, _, rfl, a.Rr, _, _, .int (rn rs h), rfl, rfl, sq_of S.hr, ?_, _, _, rfl, rfl, ?_⟩
    · have z := atI_nat hrs
      rw [show ((h.toNat : Nat) : Int) = h from Int.toNat_of_nonneg hb.1] at z
      exact z
    · rw [e2 h] at q
      exact q
abbrev st_Seats_ways : Stmt := inClass (top 48) 2
abbrev nm_Seats_ways : List Str := ["self", "asking", "reached", "meeting", "hour"]
theorem sc_Seats_ways : FnScope nm_Seats_ways ["self", "asking", "reached"] (defScope st_Seats_ways) := C8.fnScope_by (by decide +kernel)
/-- the ways from those who ask to hours not reached -/
def waysL (rows : Rows) (ps rs : List Int) (keys : List Int) (as : List Nat) : List (List Int) := as.flatMap fun i => ((canAt rows i).filter fun h => !decide (h ∈ keys)).map fun h => [cost rows i h - pr ps i - rn rs h, h, (i : Int)]
/-- the dict of hours reached, by whom -/
def reachK (rk : List (Int × Nat)) : List (Key × V) := rk.map fun p => ((Sum.inl p.1 : Key), V.int (p.2 : Int))
theorem reach_get {h : Int} : ∀ {rk : List (Int × Nat)}, (valV (reachK rk) (Sum.inl h)).isSome = decide (h ∈ rk.map (·.1))
  | [] => rfl
  | p :: rk => by
    unfold reachK
    by_cases e : p.1 = h
    · rw [List.map_cons, valV_pos (p := ((Sum.inl p.1 : Key), V.int (p.2 : Int))) (by rw [e]), decide_eq_true (by rw [List.map_cons, e]; exact List.mem_cons_self)]
      rfl
    · rw [List.map_cons, valV_neg (p := ((Sum.inl p.1 : Key), V.int (p.2 : Int))) (fun z => e (Sum.inl.inj z))]
      have ih := reach_get (h := h) (rk := rk)
      unfold reachK at ih
      rw [ih]
      refine decide_eq_decide.mpr ⟨fun z => List.mem_cons_of_mem _ z, fun z => ?_⟩
      rcases List.mem_cons.mp z with z | z
      · exact absurd z.symm e
      · exact z
def sp_ways (K : PySem.W.Frag) (cSe : Addr) : Sp := fun vs H Q _ => ∃ (a : Sa) (rows : Rows) (ps rs : List Int) (la lr : Addr) (as : List Nat) (rk : List (Int × Nat)), vs = [.ref a.s, .ref la, .ref lr] ∧ SeatsR cSe H a rows ps rs ∧ JsAt H a.ds rows ∧ a.ds.Nodup ∧ H la = some (.lst (as.map fun (i : Nat) => V.int (i : Int))) ∧ (∀ i ∈ as, i < rows.length) ∧ as.length ≤ 1000 ∧
  H lr = some (.dK (reachK rk)) ∧ la ∉ a.ds ∧ lr ∉ a.ds ∧
  ∀ (H' : Hp) (r : Addr) (ts : List Addr), Kx H H' → H r = none → H' r = some (.lst (ts.map V.ref)) → Paired (fun t (x : List Int) => H' t = some (.tup (x.map V.int))) ts (waysL rows ps rs (rk.map (·.1)) as) → Q (.ref r) H'
theorem ok_ways (D : MetT K cSe "ways" "Seats.ways" st_Seats_ways c) (e_Seats : Own K mg "Seats" cSe) (n1 : NoAttr K cSe "jumps") (m_Seats_gap : C8.Met P w K mg base 1 cSe "gap" (sp_gap cSe) []) : C8.Met P w K mg base 2 cSe "ways" (sp_ways K cSe) [] := by
  refine met_of D sc_Seats_ways (fun _ _ _ _ _ _ us hl => match us, hl with | [_, _, _], _ => rfl) (fun vs H Q E h => ?_) (fun f A outer s H vs Q E hr h => ?_)
  · obtain ⟨a, rows, ps, rs, la, lr, as, rk, rfl, _⟩ := h
    rfl
  · obtain ⟨a, rows, ps, rs, la, lr, as, rk, rfl, S, hds, ndd, hla, has, l1000, hlr, nla, nlr, q⟩ := h
    have nd := sc_Seats_ways.nd
    have hu := hu_of hr
    refine ⟨_, (pss_one (ps_ret (pe_lockN (pe_lc2 (own := [("meeting", 3), ("hour", 4)]) (vs1 := [4]) (g := gName 3) (g1 := gName 4) (tt := tYes) (by rfl) nd (pi_list (pv 1)) (blkOk_by (own := [("meeting", 3), ("hour", 4)]) (N := nm_Seats_ways) (sc := defScope st_Seats_ways) (by decide +kernel)) (by decide) (fun _ _ _ _ _ => pg_name (i := 3) nd rfl (Or.inl rfl)) (fun _ _ _ _ _ => pts_nil) (fun _ _ _ _ _ => (show PI _ _ _ (iKeys _) from pi_keys (pe_ix (show IxR _ (rIxL K) from ix_list) (show PE _ _ (tFld K _ "jumps") from pe_fld (pv 0) rfl) (pv 3) (fun _ _ => rfl)))) (fun _ _ _ _ _ => pg_name (i := 4) nd rfl (Or.inl rfl)) (fun _ _ _ _ _ => pts_one (pt_cmp (pc_dnotin hu (pv 4) (pv 2)))) (fun _ _ _ _ _ => (pe_tup (pa_cons (C8.pe_mt m_Seats_gap hr (by first | decide | exact hkp) (pv 0) (pa_cons (pv 3) (pa_cons (pv 4) pa_nil))) (pa_cons (pv 4) (pa_cons (pv 3) pa_nil))))))))), ?_⟩
    refine ⟨a.ds.length, lock_all a.ds H _ ndd (fun d hd => ?_) fun G Q' lk hq' => ?_⟩
    · obtain ⟨i, hi⟩ := List.mem_iff_getElem?.mp hd
      obtain ⟨r, _, h1, _⟩ := paired_at hds hi
      exact ⟨_, h1, trivial⟩
    -- as it stands under the locks
    have keep : ∀ {b : Addr} {u : HO}, b ∉ a.ds → H b = some u → G b = some u := fun n e => by rw [lk.out _ n]; exact e
    have jG : JL G a.ds rows := paired_imp_mem (fun d hd r z => ⟨by
      obtain ⟨od, u, h1, _, h3⟩ := lk.in_ d hd
      rw [z.1] at h1
      rw [← Option.some.inj h1] at h3
      exact .inr ⟨od, h3⟩, z.2⟩) hds
    have frz : ∀ (i : Nat) (d : Addr), a.ds[i]? = some d → ∃ od r, rows[i]? = some r ∧ G d = some (.frz od (.dK (jrow r))) := fun i d hd => by
      obtain ⟨r, hr, z, _⟩ := paired_at hds hd
      obtain ⟨od, u, h1, _, h3⟩ := lk.in_ d (List.mem_of_getElem? hd)
      rw [z] at h1
      rw [← Option.some.inj h1] at h3
      exact ⟨od, r, hr, h3⟩
    have notd : ∀ {b : Addr} {xs : List V}, H b = some (.lst xs) → b ∉ a.ds := fun h z => by
      obtain ⟨i, hi⟩ := List.mem_iff_getElem?.mp z
      obtain ⟨r, _, h1, _⟩ := paired_at hds hi
      rw [h] at h1
      cases h1
    have nsd : a.s ∉ a.ds := fun z => by
      obtain ⟨i, hi⟩ := List.mem_iff_getElem?.mp z
      obtain ⟨r, _, h1, _⟩ := paired_at hds hi
      rw [S.ob] at h1
      cases h1
    have SG : SeatsR cSe G a rows ps rs := ⟨keep nsd S.ob, keep (notd S.hJ) S.hJ, jG, keep (notd S.hp) S.hp, keep (notd S.hr) S.hr, S.l2, S.l3⟩
    have hlaG := keep nla hla
    have hlrG := keep nlr hlr
    have lds := paired_len hds
    generalize ekeys : rk.map (·.1) = keys at q
    refine ⟨_, rfl, la, rfl, ⟨_, sq_of hlaG⟩, fun D nD => ?_⟩
    let Iv : Nat → List (List Int) → Hp → Prop := fun n L Hc => Kx G Hc ∧ ∃ ts : List Addr, Hc D = some (.lst (ts.map V.ref)) ∧ Paired (fun t (x : List Int) => Hc t = some (.tup (x.map V.int))) ts L ∧ ts.length ≤ n
    have ivD : ∀ {n : Nat} {L : List (List Int)} {Hc : Hp} {ts : List Addr}, Paired (fun t (x : List Int) => Hc t = some (.tup (x.map V.int))) ts L → ∀ {o u : HO}, Hc D = some o → (∀ ys, o ≠ .tup ys) → Paired (fun t (x : List Int) => (upd Hc D u) t = some (.tup (x.map V.int))) ts L := fun h o u ho no => by
      refine paired_imp (fun t x z => ?_) h
      rw [upd_ne fun e => no _ (Option.some.inj (ho.symm.trans (by rw [← e]; exact z)))]
      exact z
    refine ⟨fun i m Hc => m = as.length - i ∧ i ≤ as.length ∧ Iv (12 * i) (waysL rows ps rs keys (as.take i)) Hc, ⟨as.length, rfl, Nat.zero_le _, Kx.new nD, [], upd_same, .nil, Nat.zero_le _⟩, ?_⟩
    rintro i m Hc ⟨rfl, hi, kc, ts, hD, hts, lts⟩
    by_cases hlt : i < as.length
    · have hx : (as.map fun (i : Nat) => V.int (i : Int))[i]? = some (.int (as[i] : Nat)) := by rw [List.getElem?_map, List.getElem?_eq_getElem hlt] <;> rfl
      have qx := kc.l (sq_of (K := K) hlaG)
      refine .inr ⟨⟨_, _, qx, hx⟩, fun H' => Iv (12 * (i + 1)) (waysL rows ps rs keys (as.take (i + 1))) H', fun H' p' => ⟨as.length - (i + 1), by omega, rfl, hlt, p'⟩, fun v H' y => ?_⟩
      obtain ⟨e, y⟩ := y
      subst e
      have ev : v = .int (as[i] : Nat) := Option.some.inj ((y _ qx).symm.trans hx)
      subst ev
      have hin := has as[i] (List.getElem_mem hlt)
      obtain ⟨d, hd⟩ : ∃ d, a.ds[as[i]]? = some d := ⟨_, List.getElem?_eq_getElem (by rw [lds]; exact hin)⟩
      obtain ⟨od, r, hrr, hfz⟩ := frz _ _ hd
      obtain ⟨e1, e2⟩ := canAt_of hrr
      obtain ⟨r', hr', _, _, l12, _⟩ := paired_at hds hd
      obtain rfl : r = r' := Option.some.inj (hrr.symm.trans hr')
      have Sc := SG.k kc
      refine ⟨rfl, yesT ?_⟩
      refine ⟨_, rfl, a.s, cSe, a.dx, _, _, rfl, Sc.ob, e_Seats.cl, n1, fld_jumps a, _, rfl, a.J, _, _, .ref d, rfl, rfl, sq_of Sc.hJ, atI_nat (by rw [List.getElem?_map, hd] <;> rfl), d, od, rfl, .inl ⟨jrow r, kc.o _ _ hfz (fun ps z => nomatch z), ?_⟩⟩
      let row : Int → List Int := fun h => [cost rows as[i] h - pr ps as[i] - rn rs h, h, (as[i] : Int)]
      refine ⟨fun j k Hd => k = r.1.length - j ∧ j ≤ r.1.length ∧ Iv (12 * i + j) (waysL rows ps rs keys (as.take i) ++ ((r.1.take j).filter fun h => !decide (h ∈ keys)).map row) Hd, ⟨r.1.length, rfl, Nat.zero_le _, kc, ts, hD, by rw [List.take_zero, List.filter_nil, List.map_nil, List.append_nil]; exact hts, lts⟩, ?_⟩
      rintro j k Hd ⟨rfl, hj, kd, us, hDd, hus, lus⟩
      by_cases hjl : j < r.1.length
      · have hk0 : (jrow r)[j]? = some ((Sum.inl r.1[j] : Key), V.int (jumpZ r.2 r.1[j])) := by
          unfold jrow
          rw [List.getElem?_map, List.getElem?_eq_getElem hjl] <;> rfl
        refine .inr ⟨⟨kd.o _ _ hfz (fun ps z => nomatch z), by unfold jrow; rw [List.length_map]; exact hjl⟩, fun H' => Iv (12 * i + (j + 1)) (waysL rows ps rs keys (as.take i) ++ ((r.1.take (j + 1)).filter fun h => !decide (h ∈ keys)).map row) H', fun H' p' => ⟨r.1.length - (j + 1), by omega, rfl, hjl, p'⟩, fun x H' y => ?_⟩
        obtain ⟨rfl, kk, vv, hk, rfl⟩ := y
        rw [hk0] at hk
        obtain ⟨rfl, rfl⟩ : Sum.inl r.1[j] = kk ∧ V.int (jumpZ r.2 r.1[j]) = vv := ⟨congrArg Prod.fst (Option.some.inj hk), congrArg Prod.snd (Option.some.inj hk)⟩
        have hlrd := kd.o _ _ hlrG fun ps z => nomatch z
        have et : r.1.take (j + 1) = r.1.take j ++ [r.1[j]] := by rw [List.take_add_one, List.getElem?_eq_getElem hjl] <;> rfl
        refine ⟨rfl, _, rfl, _, rfl, lr, _, rfl, DGet.k (k := Sum.inl r.1[j]) hlrd, _, rfl, ?_⟩
        rw [reach_get, ekeys]
        by_cases hkk : r.1[j] ∈ keys
        · rw [decide_eq_true hkk]
          refine iteF ?_
          refine ⟨kd, us, hDd, ?_, by omega⟩
          rw [et, filter_snoc, if_neg (by rw [decide_eq_true hkk]; decide), List.append_nil]
          exact hus
        · rw [decide_eq_false hkk]
          refine iteT ?_
          have Sd := SG.k kd
          refine ⟨_, rfl, a.s, a.dx, _, rfl, Sd.ob, rfl, _, rfl, _, rfl, a, rows, ps, rs, as[i], r.1[j], rfl, Sd, hin, by rw [e1]; exact List.getElem_mem hjl, ?_⟩
          refine ⟨_, rfl, _, rfl, (by show 3 ≤ sizeLine; decide), fun t nt => ?_⟩
          have k3 : Kx H' (upd H' t (.tup ((row r.1[j]).map V.int))) := Kx.new nt
          have hD3 := k3.lst hDd
          refine ⟨_, hD3, by rw [List.length_map]; exact lt80 (by omega), (kd.trans k3).mut nD, us ++ [t], by rw [upd_same, List.map_append] <;> rfl, ?_, by rw [List.length_append]; show _ + 1 ≤ _; omega⟩
          rw [et, filter_snoc, if_pos (by rw [decide_eq_false hkk]; rfl), List.map_append, ← List.append_assoc]
          have base3 : Paired (fun t' (x : List Int) => (upd H' t (.tup ((row r.1[j]).map V.int))) t' = some (.tup (x.map V.int))) (us ++ [t]) ((waysL rows ps rs keys (as.take i) ++ ((r.1.take j).filter fun h => !decide (h ∈ keys)).map row) ++ [row r.1[j]]) :=
            paired_snoc (paired_imp (fun t x z => k3.tup z) hus) upd_same
          exact ivD (n := 0) base3 hD3 fun _ z => nomatch z
      · have ej : j = r.1.length := by omega
        subst ej
        rw [List.take_length] at hus
        refine .inl ⟨⟨kd.o _ _ hfz (fun ps z => nomatch z), by unfold jrow; rw [List.length_map]; exact Nat.le_refl _⟩, kd, us, hDd, ?_, by omega⟩
        have ew : waysL rows ps rs keys (as.take (i + 1)) = waysL rows ps rs keys (as.take i) ++ (r.1.filter fun h => !decide (h ∈ keys)).map row := by
          unfold waysL
          rw [List.take_add_one, List.getElem?_eq_getElem hlt, List.flatMap_append]
          congr 1
          rw [show (some as[i]).toList = [as[i]] from rfl, List.flatMap_cons, List.flatMap_nil, List.append_nil, e1]
        rw [ew]
        exact hus
    · have ei : i = as.length := by omega
      subst ei
      rw [List.take_length] at hts
      refine .inl ⟨⟨_, kc.l (sq_of hlaG), by rw [List.length_map]; exact Nat.le_refl _⟩, ?_⟩
      have nDd : D ∉ a.ds := fun z => by
        obtain ⟨i, hi⟩ := List.mem_iff_getElem?.mp z
        obtain ⟨_, _, _, h3⟩ := frz i D hi
        rw [nD] at h3
        cases h3
      refine hq' (.ref D) Hc (fun d hd => ?_) fun U ul => ?_
      · obtain ⟨i, hi⟩ := List.mem_iff_getElem?.mp hd
        obtain ⟨_, _, _, h3⟩ := frz i d hi
        rw [h3]
        exact kc.o _ _ h3 fun ps z => nomatch z
      · have kU := ul.kx lk kc
        refine q U D ts kU ?_ ?_ ?_
        · have := lk.out D nDd
          rw [← this]
          exact nD
        · rw [ul.out D nDd]
          exact hD
        · refine paired_imp_mem (fun t ht x z => ?_) hts
          have ntd : t ∉ a.ds := fun w => by
            obtain ⟨i, hi⟩ := List.mem_iff_getElem?.mp w
            obtain ⟨_, _, _, h3⟩ := frz i t hi
            have := kc.o _ _ h3 fun ps z => nomatch z
            rw [z] at this
            cases this
          rw [ul.out t ntd]
          exact z
end
end CH
end

section
set_option Elab.async false
set_option linter.all false
set_option maxRecDepth 100000
set_option maxHeartbeats 4000000
namespace CH
open PySem PySem.Spec PyProof.Rows L2
open GxR (TabB TabG Tabbed)
/-- for k in d, d locked -/
theorem for_keys {d : Addr} {od : Obj} {kvs : List (Key × V)} {g : TG} {tb : TS} {D : Ends} {σ : L2.St} {H : Hp} (Pv : Nat → L2.St → Hp → Prop) (h0 : Pv 0 σ H) (hl : ∀ i σ H, Pv i σ H → H d = some (.frz od (.dK kvs)))
    (hs : ∀ (i : Nat) (k : Key) (v : V) (σ : L2.St) (H : Hp), kvs[i]? = some (k, v) → Pv i σ H → g (kV k) σ H fun σ2 H2 => tb { D with nx := Pv (i + 1), ct := Pv (i + 1), bk := D.nx } σ2 H2) (hd : ∀ σ H, Pv kvs.length σ H → D.nx σ H) :
    ∃ W : Nat → Nat → L2.St → Hp → Prop, (∃ m, W 0 m σ H) ∧ ∀ i m σ H, W i m σ H →
      ((Itk d od kvs).stop i H ∧ D.nx σ H) ∨ ((Itk d od kvs).go i H ∧ ∃ N : L2.St → Hp → Prop, (∀ σ' H', N σ' H' → ∃ m', m' < m ∧ W (i + 1) m' σ' H') ∧ ∀ v H', (Itk d od kvs).yld i H v H' → g v σ H' fun σ2 H2 => tb { D with nx := N, ct := N, bk := D.nx } σ2 H2) := by
  refine ⟨fun i m σ H => m = kvs.length - i ∧ i ≤ kvs.length ∧ Pv i σ H, ⟨kvs.length, rfl, Nat.zero_le _, h0⟩, ?_⟩
  rintro i m σ H ⟨rfl, hi, p⟩
  have q := hl i σ H p
  by_cases hlt : i < kvs.length
  · refine .inr ⟨⟨q, hlt⟩, Pv (i + 1), fun σ' H' p' => ⟨kvs.length - (i + 1), by omega, rfl, hlt, p'⟩, fun v H' y => ?_⟩
    obtain ⟨eH, k, z, hk, rfl⟩ := y
    rw [eH]
    exact hs i k z σ H hk p
  · have e : i = kvs.length := by omega
    subst e
    exact .inl ⟨⟨q, Nat.le_refl _⟩, hd σ H p⟩
theorem pr_set {ps : List Int} {i j : Nat} {v : Int} (hi : i < ps.length) : pr (ps.set i v) j = if i = j then v else pr ps j := by
  unfold pr
  rw [List.getD_eq_getElem?_getD, List.getD_eq_getElem?_getD]
  by_cases e : i = j
  · subst e
    rw [if_pos rfl, List.getElem?_set_self hi]
    rfl
  · rw [if_neg e, List.getElem?_set_ne e]
theorem rn_set {rs : List Int} {g h : Int} {v : Int} (hg : g.toNat < rs.length) (h0 : 0 ≤ h) (g0 : 0 ≤ g) : rn (rs.set g.toNat v) h = if g = h then v else rn rs h := by
  have := pr_set (ps := rs) (i := g.toNat) (j := h.toNat) (v := v) hg
  unfold pr at this
  unfold rn
  rw [this]
  by_cases e : g = h
  · subst e
    rw [if_pos rfl, if_pos rfl]
  · rw [if_neg e, if_neg (by omega)]
theorem SeatsAt.ke {cSe : Addr} {H H' : Hp} {a : Sa} {rows : Rows} {hs : List (Option Int)} {ps rs ps' rs' : List Int} {kvs : List (Key × V)} {hf : Int → Option Nat} (S : SeatsAt cSe H a rows hs ps rs kvs hf) (k : Ke [a.Pp, a.Rr] H H') (hp : H' a.Pp = some (.lst (ps'.map V.int))) (hr : H' a.Rr = some (.lst (rs'.map V.int))) :
    SeatsAt cSe H' a rows hs ps' rs' kvs hf := by
  have no : ∀ {b : Addr} {u : HO}, H b = some u → (∀ xs, u ≠ .lst xs) → b ∉ [a.Pp, a.Rr] := fun {b u} h n z => by
    simp only [List.mem_cons, List.not_mem_nil, or_false] at z
    rcases z with rfl | rfl
    · rw [S.hp] at h
      exact n _ (Option.some.inj h).symm
    · rw [S.hr] at h
      exact n _ (Option.some.inj h).symm
  have n2 : ∀ {b : Addr}, b ≠ a.Pp → b ≠ a.Rr → b ∉ [a.Pp, a.Rr] := fun h1 h2 z => by
    simp only [List.mem_cons, List.not_mem_nil, or_false] at z
    rcases z with z | z
    · exact h1 z
    · exact h2 z
  refine ⟨k.o _ _ (no S.ob fun _ z => nomatch z) S.ob (fun _ z => nomatch z), k.o _ _ (n2 S.n1.2.1 S.n1.2.2) S.hJ (fun _ z => nomatch z), paired_imp (fun d r z => ⟨k.o _ _ (no z.1 fun _ z => nomatch z) z.1 (fun _ z => nomatch z), z.2⟩) S.hd,
    k.o _ _ (n2 S.n2.1 S.n2.2.1) S.hh (fun _ z => nomatch z), hp, hr, k.o _ _ (no S.ho fun _ z => nomatch z) S.ho (fun _ z => nomatch z), S.hf_, S.n1, S.n2, S.n3, S.nd⟩
section
variable {P : Program} {w : World} {K : PySem.W.Frag} {mg : Str → Option Value} {base : Heap} {c aA cc cm cSe : Addr}
abbrev st_Seats_raise_prices : Stmt := inClass (top 48) 3
abbrev nm_Seats_raise_prices : List Str := ["self", "asking", "reached", "step", "meeting", "hour"]
theorem sc_Seats_raise_prices : FnScope nm_Seats_raise_prices ["self", "asking", "reached", "step"] (defScope st_Seats_raise_prices) := C8.fnScope_by (by decide +kernel)
def sp_raise (cSe : Addr) : Sp := fun vs H Q _ => ∃ (a : Sa) (rows : Rows) (hs : List (Option Int)) (ps rs : List Int) (kvs : List (Key × V)) (hf : Int → Option Nat) (la lr : Addr) (as : List Nat) (rk : List (Int × Nat)) (x : Int), vs = [.ref a.s, .ref la, .ref lr, .int x] ∧ SeatsAt cSe H a rows hs ps rs kvs hf ∧ H la = some (.lst (as.map fun (i : Nat) => V.int (i : Int))) ∧ H lr = some (.dK (reachK rk)) ∧
  la ≠ a.Pp ∧ la ≠ a.Rr ∧ as.Nodup ∧ (∀ i ∈ as, i < rows.length) ∧ (rk.map (·.1)).Nodup ∧ (∀ h ∈ rk.map (·.1), 0 ≤ h ∧ h ≤ 11) ∧ ps.length = rows.length ∧ rs.length = 12 ∧
  ∀ (H' : Hp) (ps' rs' : List Int), Ke [a.Pp, a.Rr] H H' → SeatsAt cSe H' a rows hs ps' rs' kvs hf → ps'.length = ps.length → rs'.length = rs.length → (∀ i, pr ps' i = pr ps i + if i ∈ as then x else 0) → (∀ h : Int, 0 ≤ h → rn rs' h = rn rs h - if h ∈ rk.map (·.1) then x else 0) → Q .non H'
theorem ok_raise (D : MetT K cSe "raise_prices" "Seats.raise_prices" st_Seats_raise_prices c) (e_Seats : Own K mg "Seats" cSe) (n3 : NoAttr K cSe "prices") (n4 : NoAttr K cSe "rents") : C8.Met P w K mg base 1 cSe "raise_prices" (sp_raise cSe) [] := by
  refine met_of D sc_Seats_raise_prices (fun _ _ _ _ _ _ us hl => match us, hl with | [_, _, _, _], _ => rfl) (fun vs H Q E h => ?_) (fun f A outer s H vs Q E hr h => ?_)
  · obtain ⟨a, rows, hs, ps, rs, kvs, hf, la, lr, as, rk, x, rfl, _⟩ := h
    rfl
  · obtain ⟨a, rows, hs, ps, rs, kvs, hf, la, lr, as, rk, x, rfl, S, hla, hlr, nl1, nl2, asnd, has, rnd, rin, lp, lrs, q⟩ := h
    have nd := sc_Seats_raise_prices.nd
    refine ⟨_, (pss_cons (ps_for PassesOwn.never rfl (pi_list (pv 1)) (pg_name (i := 4) nd rfl (Or.inl rfl)) (pss_one (ps_augL (pe_fld (pv 0) rfl) (pv 4) (pv 3) ip_add)))
      (pss_one (ps_lock (ps_for PassesOwn.never rfl (pi_keys (pv 2)) (pg_name (i := 5) nd rfl (Or.inl rfl)) (pss_one (ps_augL (pe_fld (pv 0) rfl) (pv 5) (pv 3) ip_sub)))))), ?_⟩
    have nsP : a.s ≠ a.Pp := fun z => by have := S.ob; rw [z, S.hp] at this; cases this
    have nsR : a.s ≠ a.Rr := fun z => by have := S.ob; rw [z, S.hr] at this; cases this
    have nlrP : lr ≠ a.Pp := fun z => by rw [z, S.hp] at hlr; cases hlr
    have nlrR : lr ≠ a.Rr := fun z => by rw [z, S.hr] at hlr; cases hlr
    refine ⟨_, rfl, la, rfl, ⟨_, sq_of hla⟩, for_list (K := K) (a := la) (xs := as.map fun (i : Nat) => V.int (i : Int)) (fun j σ H2 => ∃ (v4 v5 : Option V) (ps' : List Int), σ = [some (.ref a.s), some (.ref la), some (.ref lr), some (.int x), v4, v5] ∧ Ke [a.Pp, a.Rr] H H2 ∧ H2 a.s = some (.ins cSe a.dx a.flds) ∧ H2 la = some (.lst (as.map fun (i : Nat) => V.int (i : Int))) ∧ H2 a.Pp = some (.lst (ps'.map V.int)) ∧ H2 a.Rr = some (.lst (rs.map V.int)) ∧ H2 lr = some (.dK (reachK rk)) ∧ ps'.length = ps.length ∧ ∀ i, pr ps' i = pr ps i + if i ∈ as.take j then x else 0)
      ⟨none, none, ps, rfl, Ke.refl _ _, S.ob, hla, S.hp, S.hr, hlr, rfl, fun i => by rw [List.take_zero, if_neg (by simp), Int.add_zero]⟩ (fun j σ H2 _ ⟨_, _, _, _, _, _, h, _⟩ => sq_of h) ?_ ?_⟩
    · rintro j y σ H2 hj ⟨v4, v5, ps', rfl, k2, hs2, hla2, hp2, hr2, hlr2, lps, eps⟩
      obtain ⟨i, hi, rfl⟩ : ∃ i, as[j]? = some i ∧ V.int (i : Nat) = y := by
        rw [List.getElem?_map] at hj
        exact Option.map_eq_some_iff.mp hj
      have hil : i < ps'.length := by rw [lps, lp]; exact has i (List.mem_of_getElem? hi)
      have hget : (ps'.map V.int)[i]? = some (.int (pr ps' i)) := by
        unfold pr
        rw [List.getElem?_map, List.getElem?_eq_getElem hil, List.getD_eq_getElem?_getD, List.getElem?_eq_getElem hil] <;> rfl
      refine ⟨_, rfl, a.s, cSe, a.dx, _, _, rfl, hs2, e_Seats.cl, n3, fld_prices a, _, rfl, a.Pp, _, i, _, rfl, rfl, sq_of hp2, hget, _, rfl, _, _, rfl, rfl, a.Pp, _, _, i, rfl, rfl, hp2, ixn_at (by rw [List.length_map]; exact hil), ?_⟩
      rw [← List.map_set]
      refine ⟨_, _, ps'.set i (pr ps' i + x), rfl, k2.mut (by simp), by rw [upd_ne nsP]; exact hs2, by rw [upd_ne nl1]; exact hla2, upd_same, by rw [upd_ne S.n2.2.2.symm]; exact hr2, by rw [upd_ne nlrP]; exact hlr2, by rw [List.length_set]; exact lps, fun i' => ?_⟩
      have et : as.take (j + 1) = as.take j ++ [i] := by rw [List.take_add_one, hi] <;> rfl
      have hni : i ∉ as.take j := fun z => by
        obtain ⟨t, ht⟩ := List.mem_iff_getElem?.mp z
        have htl := (List.getElem?_eq_some_iff.mp ht).1
        rw [List.length_take] at htl
        rw [List.getElem?_take_of_lt (by omega)] at ht
        have hjl := (List.getElem?_eq_some_iff.mp hi).1
        have := (List.getElem?_inj hjl asnd).mp (hi.trans ht.symm)
        omega
      rw [pr_set hil, et, eps i']
      by_cases e : i = i'
      · subst e
        rw [if_pos rfl, eps i, if_neg hni, if_pos (by simp)]
        omega
      · rw [if_neg e]
        have : (i' ∈ as.take j ++ [i]) ↔ i' ∈ as.take j := ⟨fun z => by
          rcases List.mem_append.mp z with z | z
          · exact z
          · exact absurd (List.mem_singleton.mp z).symm e, fun z => List.mem_append_left _ z⟩
        by_cases z : i' ∈ as.take j
        · rw [if_pos z, if_pos (this.mpr z)]
        · rw [if_neg z, if_neg fun y => z (this.mp y)]
    · rintro σ H2 ⟨v4, v5, ps', rfl, k2, hs2, hla2, hp2, hr2, hlr2, lps, eps⟩
      rw [List.length_map, List.take_length] at eps
      refine ⟨lr, _, hlr2, trivial, fun od => ?_⟩
      have key : ∀ {b : Addr} {u : HO}, H2 b = some u → (∀ k, u ≠ .dK k) → b ≠ lr := fun h n z => by
        rw [z, hlr2] at h
        exact n _ (Option.some.inj h).symm
      have nsl := key hs2 fun _ z => nomatch z
      have npl := key hp2 fun _ z => nomatch z
      have nrl := key hr2 fun _ z => nomatch z
      refine ⟨_, rfl, lr, od, rfl, .inl ⟨reachK rk, upd_same, ?_⟩⟩
      refine for_keys (d := lr) (od := od) (kvs := reachK rk) (fun j σ H3 => ∃ (v5 : Option V) (rs' : List Int), σ = [some (.ref a.s), some (.ref la), some (.ref lr), some (.int x), v4, v5] ∧ H3 lr = some (.frz od (.dK (reachK rk))) ∧ Ke [a.Pp, a.Rr] H2 (upd H3 lr (.dK (reachK rk))) ∧ H3 a.s = some (.ins cSe a.dx a.flds) ∧ H3 a.Pp = some (.lst (ps'.map V.int)) ∧ H3 a.Rr = some (.lst (rs'.map V.int)) ∧ rs'.length = rs.length ∧
          ∀ h : Int, 0 ≤ h → rn rs' h = rn rs h - if h ∈ (rk.take j).map (·.1) then x else 0)
        ⟨_, rs, rfl, upd_same, ?_, by rw [upd_ne nsl]; exact hs2, by rw [upd_ne npl]; exact hp2, by rw [upd_ne nrl]; exact hr2, rfl, fun h _ => by rw [List.take_zero, if_neg (by simp)]; omega⟩ (fun j σ H3 ⟨_, _, _, h, _⟩ => h) ?_ ?_
      · have e : upd (upd H2 lr (.frz od (.dK (reachK rk)))) lr (.dK (reachK rk)) = H2 := by
          funext b
          by_cases z : b = lr
          · rw [z, upd_same, hlr2]
          · rw [upd_ne z, upd_ne z]
        rw [e]
        exact Ke.refl _ _
      · rintro j k v σ H3 hk ⟨v5, rs', rfl, hl3, k3, hs3, hp3, hr3, lr3, er3⟩
        obtain ⟨p, hp, hpe⟩ : ∃ p, rk[j]? = some p ∧ ((Sum.inl p.1 : Key), V.int (p.2 : Int)) = (k, v) := by
          unfold reachK at hk
          rw [List.getElem?_map] at hk
          exact Option.map_eq_some_iff.mp hk
        obtain ⟨rfl, rfl⟩ : Sum.inl p.1 = k ∧ V.int (p.2 : Int) = v := ⟨congrArg Prod.fst hpe, congrArg Prod.snd hpe⟩
        have hb := rin p.1 (List.mem_map.mpr ⟨p, List.mem_of_getElem? hp, rfl⟩)
        have hil : p.1.toNat < rs'.length := by rw [lr3, lrs]; omega
        have hget : (rs'.map V.int)[p.1.toNat]? = some (.int (rn rs' p.1)) := by
          unfold rn
          rw [List.getElem?_map, List.getElem?_eq_getElem hil, List.getD_eq_getElem?_getD, List.getElem?_eq_getElem hil] <;> rfl
        have etn : ((p.1.toNat : Nat) : Int) = p.1 := Int.toNat_of_nonneg hb.1
        refine ⟨_, rfl, a.s, cSe, a.dx, _, _, rfl, hs3, e_Seats.cl, n4, fld_rents a, _, rfl, a.Rr, _, p.1.toNat, _, rfl, by rw [etn] <;> rfl, sq_of hr3, hget, _, rfl, _, _, rfl, rfl, a.Rr, _, _, p.1.toNat, rfl, rfl, hr3, ?_, ?_⟩
        · have z := ixn_at (n := (rs'.map V.int).length) (j := p.1.toNat) (by rw [List.length_map]; exact hil)
          rw [etn] at z
          exact z
        rw [← List.map_set]
        refine ⟨_, rs'.set p.1.toNat (rn rs' p.1 - x), rfl, by rw [upd_ne nlrR]; exact hl3, ?_, by rw [upd_ne nsR]; exact hs3, by rw [upd_ne S.n2.2.2]; exact hp3, upd_same, by rw [List.length_set]; exact lr3, fun h h0 => ?_⟩
        · have e : upd (upd H3 a.Rr (.lst ((rs'.set p.1.toNat (rn rs' p.1 - x)).map V.int))) lr (.dK (reachK rk)) = upd (upd H3 lr (.dK (reachK rk))) a.Rr (.lst ((rs'.set p.1.toNat (rn rs' p.1 - x)).map V.int)) := by
            funext b
            by_cases z : b = lr
            · rw [z, upd_same, upd_ne nlrR, upd_same]
            · rw [upd_ne z]
              by_cases z2 : b = a.Rr
              · rw [z2, upd_same, upd_same]
              · rw [upd_ne z2, upd_ne z2, upd_ne z]
          rw [e]
          exact k3.mut (by simp)
        · have et : rk.take (j + 1) = rk.take j ++ [p] := by rw [List.take_add_one, hp] <;> rfl
          have hni : p.1 ∉ (rk.take j).map (·.1) := fun z => by
            obtain ⟨t, ht⟩ := List.mem_iff_getElem?.mp z
            have htl := (List.getElem?_eq_some_iff.mp ht).1
            rw [List.length_map, List.length_take] at htl
            rw [List.map_take] at ht
            rw [List.getElem?_take_of_lt (by omega)] at ht
            have hjl := (List.getElem?_eq_some_iff.mp hp).1
            have h1 : (rk.map (·.1))[j]? = some p.1 := by rw [List.getElem?_map, hp] <;> rfl
            have := (List.getElem?_inj (by rw [List.length_map]; exact hjl) rnd).mp (h1.trans ht.symm)
            omega
          rw [rn_set hil h0 hb.1, et, List.map_append, er3 h h0]
          by_cases e : p.1 = h
          · subst e
            rw [if_pos rfl, er3 p.1 h0, if_neg hni, if_pos (by simp)]
            omega
          · rw [if_neg e]
            have : (h ∈ (rk.take j).map (·.1) ++ [p].map (·.1)) ↔ h ∈ (rk.take j).map (·.1) := ⟨fun z => by
              rcases List.mem_append.mp z with z | z
              · exact z
              · exact absurd (List.mem_singleton.mp z).symm e, fun z => List.mem_append_left _ z⟩
            by_cases z : h ∈ (rk.take j).map (·.1)
            · rw [if_pos z, if_pos (this.mpr z)]
            · rw [if_neg z, if_neg fun y => z (this.mp y)]
      · rintro σ H3 ⟨v5, rs', rfl, hl3, k3, hs3, hp3, hr3, lr3, er3⟩
        have lrk : (reachK rk).length = rk.length := by unfold reachK; rw [List.length_map]
        rw [lrk, List.take_length] at er3
        refine ⟨hl3, ?_⟩
        have kk := k2.trans k3
        refine q _ ps' rs' kk (S.ke kk ?_ ?_) lps lr3 eps er3
        · rw [upd_ne nlrP.symm]
          exact hp3
        · rw [upd_ne nlrR.symm]
          exact hr3
end
end CH
end

section
set_option Elab.async false
set_option linter.all false
set_option maxRecDepth 100000
set_option maxHeartbeats 4000000
namespace CH
open PySem PySem.Spec PyProof.Rows L2
open GxR (TabB TabG Tabbed)
theorem reach_val {h : Int} {m : Nat} : ∀ {rk : List (Int × Nat)} {j : Nat}, (rk.map (·.1)).Nodup → rk[j]? = some (h, m) → valV (reachK rk) (Sum.inl h) = some (.int (m : Int))
  | [], j, _, e => by simp at e
  | p :: rk, 0, _, e => by
    have e' : p = (h, m) := by simpa using e
    subst e'
    unfold reachK
    rw [List.map_cons, valV_pos (p := ((Sum.inl h : Key), V.int (m : Int))) rfl]
  | p :: rk, j + 1, nd, e => by
    obtain ⟨n1, n2⟩ := List.nodup_cons.mp (show ((p.1) :: rk.map (·.1)).Nodup from nd)
    have e' : rk[j]? = some (h, m) := by simpa using e
    have ne : p.1 ≠ h := fun z => n1 (by rw [z]; exact List.mem_map.mpr ⟨(h, m), List.mem_of_getElem? e', rfl⟩)
    unfold reachK
    rw [List.map_cons, valV_neg (p := ((Sum.inl p.1 : Key), V.int (p.2 : Int))) (fun z => ne (Sum.inl.inj z))]
    exact reach_val n2 e'
theorem SeatsAt.ke2 {cSe : Addr} {H H' : Hp} {a : Sa} {rows : Rows} {hs hs' : List (Option Int)} {ps rs : List Int} {kvs kvs' : List (Key × V)} {hf hf' : Int → Option Nat} (S : SeatsAt cSe H a rows hs ps rs kvs hf) (k : Ke [a.Hh, a.Ho] H H') (hh : H' a.Hh = some (.lst (hs'.map oldV))) (ho : H' a.Ho = some (.dK kvs')) (hd : HoldD kvs' hf') :
    SeatsAt cSe H' a rows hs' ps rs kvs' hf' := by
  have n2 : ∀ {b : Addr}, b ≠ a.Hh → b ≠ a.Ho → b ∉ [a.Hh, a.Ho] := fun h1 h2 z => by
    simp only [List.mem_cons, List.not_mem_nil, or_false] at z
    rcases z with z | z
    · exact h1 z
    · exact h2 z
  have l1 : ∀ {b : Addr} {xs : List V}, H b = some (.lst xs) → b ≠ a.Ho := fun h z => by rw [z, S.ho] at h; cases h
  have l2 : ∀ {b : Addr} {u : HO}, H b = some u → (∀ xs, u ≠ .lst xs) → b ≠ a.Hh := fun h n z => by
    rw [z, S.hh] at h
    exact n _ (Option.some.inj h).symm
  have l3 : ∀ {b : Addr} {ks : List (Key × V)}, H b = some (.dK ks) → b ≠ a.Hh := fun h z => by rw [z, S.hh] at h; cases h
  have nso : a.s ≠ a.Ho := fun z => by have := S.ob; rw [z, S.ho] at this; cases this
  refine ⟨k.o _ _ (n2 (l2 S.ob fun _ z => nomatch z) nso) S.ob (fun _ z => nomatch z), k.o _ _ (n2 S.n1.1 (l1 S.hJ)) S.hJ (fun _ z => nomatch z), paired_imp_mem (fun d hdm r z => ⟨k.o _ _ (n2 (l3 z.1) fun w => S.n3 (by rw [← w]; exact hdm)) z.1 (fun _ z => nomatch z), z.2⟩) S.hd,
    hh, k.o _ _ (n2 S.n2.1.symm (l1 S.hp)) S.hp (fun _ z => nomatch z), k.o _ _ (n2 S.n2.2.1.symm (l1 S.hr)) S.hr (fun _ z => nomatch z), ho, hd, S.n1, S.n2, S.n3, S.nd⟩
section
variable {P : Program} {w : World} {K : PySem.W.Frag} {mg : Str → Option Value} {base : Heap} {c aA cc cm cSe : Addr}
abbrev st_Seats_hand_on : Stmt := inClass (top 48) 4
abbrev nm_Seats_hand_on : List Str := ["self", "hour", "reached", "meeting", "left"]
theorem sc_Seats_hand_on : FnScope nm_Seats_hand_on ["self", "hour", "reached"] (defScope st_Seats_hand_on) := C8.fnScope_by (by decide +kernel)
def sp_hand (cSe : Addr) : Sp := fun vs H Q _ => ∃ (a : Sa) (rows : Rows) (hs hs0 : List (Option Int)) (ps rs : List Int) (kvs : List (Key × V)) (hf hf0 : Int → Option Nat) (lr : Addr) (as : List Nat) (rk : List (Int × Nat)) (cur : Option Int) (j k : Nat), vs = [.ref a.s, oldV cur, .ref lr] ∧ SeatsAt cSe H a rows hs ps rs kvs hf ∧ H lr = some (.dK (reachK rk)) ∧ lr ≠ a.Ho ∧
  Way rows k hs0 ps rs as rk ∧ Hand rows k hs0 hf0 ps rs as rk hs hf cur j ∧ kvs.length + j + 1 ≤ 1000 ∧
  ∀ (H' : Hp) (hs' : List (Option Int)) (kvs' : List (Key × V)) (hf' : Int → Option Nat) (j' : Nat), Ke [a.Hh, a.Ho] H H' → SeatsAt cSe H' a rows hs' ps rs kvs' hf' → Hand rows k hs0 hf0 ps rs as rk hs' hf' none j' → kvs'.length ≤ kvs.length + j + 1 → Q .non H'
theorem ok_hand (D : MetT K cSe "hand_on" "Seats.hand_on" st_Seats_hand_on c) (e_Seats : Own K mg "Seats" cSe) (n2 : NoAttr K cSe "hours") (n5 : NoAttr K cSe "holders") : C8.Met P w K mg base 1 cSe "hand_on" (sp_hand cSe) [] := by
  refine met_of D sc_Seats_hand_on (fun _ _ _ _ _ _ us hl => match us, hl with | [_, _, _], _ => rfl) (fun vs H Q E h => ?_) (fun f A outer s H vs Q E hr h => ?_)
  · obtain ⟨a, rows, hs, hs0, ps, rs, kvs, hf, hf0, lr, as, rk, cur, j, k, rfl, _⟩ := h
    rfl
  · obtain ⟨a, rows, hs, hs0, ps, rs, kvs, hf, hf0, lr, as, rk, cur, j, k, rfl, S, hlr, nlr, W, Hd, lk, q⟩ := h
    have nd := sc_Seats_hand_on.nd
    have hu := hu_of hr
    refine ⟨_, (pss_one (ps_while PassesOwn.never (pt_cmp (pc_notN (pv 1))) (pss_cons (ps_set (i := 3) nd rfl (Or.inl rfl) (pe_dget hu (pv 2) (pv 1) (fun _ _ => rfl)))
      (pss_cons (ps_set (i := 4) nd rfl (Or.inl rfl) (pe_ix ix_list (pe_fld (pv 0) rfl) (pv 3) (fun _ _ => rfl)))
      (pss_cons (ps_asg (pv 1) (pg_sub (pe_fld (pv 0) rfl) (pv 3) set_list))
      (pss_cons (ps_dput hu (pe_fld (pv 0) rfl) (pv 1) (pv 3) rfl)
      (pss_one (ps_set (i := 1) nd rfl (Or.inl rfl) (pv 4))))))))), ?_⟩
    have nlh : lr ≠ a.Hh := fun z => by rw [z, S.hh] at hlr; cases hlr
    let nn : Option Int → Nat → Nat := fun cur j => match cur with | none => 0 | some _ => j + 1
    refine ⟨fun n σ H2 => ∃ (cur' : Option Int) (j' : Nat) (hs' : List (Option Int)) (kvs' : List (Key × V)) (hf' : Int → Option Nat) (v3 v4 : Option V), σ = [some (.ref a.s), some (oldV cur'), some (.ref lr), v3, v4] ∧ n = nn cur' j' ∧ Ke [a.Hh, a.Ho] H H2 ∧ H2 lr = some (.dK (reachK rk)) ∧ SeatsAt cSe H2 a rows hs' ps rs kvs' hf' ∧ Hand rows k hs0 hf0 ps rs as rk hs' hf' cur' j' ∧ kvs'.length + n ≤ kvs.length + j + 1,
      ⟨nn cur j, cur, j, hs, kvs, hf, none, none, rfl, rfl, Ke.refl _ _, hlr, S, Hd, by cases cur <;> simp only [nn] <;> omega⟩, ?_⟩
    rintro n σ H2 ⟨cur', j', hs', kvs', hf', v3, v4, rfl, rfl, k2, hlr2, S2, H2d, lk2⟩
    cases cur' with
    | none =>
      refine ⟨_, rfl, _, rfl, iteF ?_⟩
      exact q H2 hs' kvs' hf' j' k2 S2 H2d (by have : nn none j' = 0 := rfl; omega)
    | some h =>
      have en : nn (some h) j' = j' + 1 := rfl
      refine ⟨_, rfl, _, rfl, iteT ⟨fun σ' H' => ∃ m', m' < nn (some h) j' ∧ ∃ (cur' : Option Int) (j' : Nat) (hs' : List (Option Int)) (kvs' : List (Key × V)) (hf' : Int → Option Nat) (v3 v4 : Option V), σ' = [some (.ref a.s), some (oldV cur'), some (.ref lr), v3, v4] ∧ m' = nn cur' j' ∧ Ke [a.Hh, a.Ho] H H' ∧ H' lr = some (.dK (reachK rk)) ∧ SeatsAt cSe H' a rows hs' ps rs kvs' hf' ∧ Hand rows k hs0 hf0 ps rs as rk hs' hf' cur' j' ∧ kvs'.length + m' ≤ kvs.length + j + 1, fun _ _ h => h, ?_⟩⟩
      obtain ⟨m, hm⟩ := H2d.cur_ h rfl
      obtain ⟨hml, left, j2, hleft, lt2, H3d⟩ := Hand.step W H2d hm
      have hml2 : m < hs'.length := (List.getElem?_eq_some_iff.mp hleft).1
      refine ⟨_, rfl, _, rfl, lr, .int (m : Int), rfl, ?_, ?_⟩
      · have z := DGet.k (k := Sum.inl h) hlr2
        rw [reach_val W.keys hm] at z
        exact z
      have hget : (hs'.map oldV)[m]? = some (oldV left) := by rw [List.getElem?_map, hleft] <;> rfl
      refine ⟨_, rfl, a.s, cSe, a.dx, _, _, rfl, S2.ob, e_Seats.cl, n2, fld_hours a, _, rfl, a.Hh, _, _, oldV left, rfl, rfl, sq_of S2.hh, atI_nat hget, ?_⟩
      refine ⟨_, rfl, _, rfl, a.s, cSe, a.dx, _, _, rfl, S2.ob, e_Seats.cl, n2, fld_hours a, _, rfl, a.Hh, _, _, m, rfl, rfl, S2.hh, ixn_at (by rw [List.length_map]; exact hml2), ?_⟩
      have nHo : a.Hh ≠ a.Ho := fun z => by have := S2.ho; rw [← z, S2.hh] at this; cases this
      have ns : a.s ≠ a.Hh := fun z => by have := S2.ob; rw [z, S2.hh] at this; cases this
      have nso : a.s ≠ a.Ho := fun z => by have := S2.ob; rw [z, S2.ho] at this; cases this
      have ehs : (hs'.map oldV).set m (oldV (some h)) = (hs'.set m (some h)).map oldV := by rw [List.map_set]
      have k3 : Ke [a.Hh, a.Ho] H (upd H2 a.Hh (.lst ((hs'.map oldV).set m (oldV (some h))))) := k2.mut (by simp)
      have hlr3 : (upd H2 a.Hh (.lst ((hs'.map oldV).set m (oldV (some h))))) lr = some (.dK (reachK rk)) := by rw [upd_ne nlh]; exact hlr2
      have hs3 : (upd H2 a.Hh (.lst ((hs'.map oldV).set m (oldV (some h))))) a.s = some (.ins cSe a.dx a.flds) := by rw [upd_ne ns]; exact S2.ob
      have ho3 : (upd H2 a.Hh (.lst ((hs'.map oldV).set m (oldV (some h))))) a.Ho = some (.dK kvs') := by rw [upd_ne nHo.symm]; exact S2.ho
      have hh3 : (upd H2 a.Hh (.lst ((hs'.map oldV).set m (oldV (some h))))) a.Hh = some (.lst ((hs'.set m (some h)).map oldV)) := by rw [upd_same, ehs]
      have k23 : Ke [a.Hh, a.Ho] H2 (upd H2 a.Hh (.lst ((hs'.map oldV).set m (oldV (some h))))) := (Ke.refl _ _).mut (by simp)
      generalize upd H2 a.Hh (.lst ((hs'.map oldV).set m (oldV (some h)))) = H3 at k3 hlr3 hs3 ho3 hh3 k23 ⊢
      refine ⟨_, rfl, _, rfl, a.s, cSe, a.dx, _, _, rfl, hs3, e_Seats.cl, n5, fld_holders a, _, rfl, a.Ho, _, rfl, DPut.k (k := Sum.inl h) ho3 (lt80 (by omega)), ?_⟩
      have hd4 : HoldD (putK kvs' (Sum.inl h) (.int (m : Int))) (fun x => if x = h then some m else hf' x) := fun x => by
        rw [valV_put]
        show _ = Option.map (fun i : Nat => V.int (i : Int)) (if x = h then some m else hf' x)
        by_cases e : x = h
        · subst e
          rw [if_pos rfl, if_pos rfl]
          rfl
        · rw [if_neg fun z => e (Sum.inl.inj z), if_neg e]
          exact S2.hf_ x
      have k4 := k3.mut (u := .dK (putK kvs' (Sum.inl h) (.int (m : Int)))) (p := a.Ho) (by simp)
      have k24 := k23.mut (u := .dK (putK kvs' (Sum.inl h) (.int (m : Int)))) (p := a.Ho) (by simp)
      have lpk := length_putK kvs' (Sum.inl h) (.int (m : Int))
      refine ⟨_, rfl, nn left j2, ?_, left, j2, hs'.set m (some h), _, _, _, _, rfl, rfl, k4, by rw [upd_ne nlr]; exact hlr3, S2.ke2 k24 (by rw [upd_ne nHo]; exact hh3) upd_same hd4, H3d, ?_⟩
      · rw [en]
        cases left with
        | none => exact Nat.succ_pos _
        | some l =>
          have := lt2 (by simp)
          show j2 + 1 < j' + 1
          omega
      · cases left with
        | none =>
          show _ + 0 ≤ _
          omega
        | some l =>
          have := lt2 (by simp)
          show _ + (j2 + 1) ≤ _
          omega
end
end CH
end

section
set_option Elab.async false
set_option linter.all false
set_option maxRecDepth 100000
set_option maxHeartbeats 4000000
namespace CH
open PySem PySem.Spec PyProof.Rows L2
open GxR (TabB TabG Tabbed)
section
variable {P : Program} {w : World} {K : PySem.W.Frag} {mg : Str → Option Value} {base : Heap} {c aA : Addr}
abbrev st_copied : Stmt := top 44
abbrev nm_copied : List Str := ["field", "told", "rest", "row", "at"]
theorem sc_copied : FnScope nm_copied ["field"] (defScope st_copied) := C8.fnScope_by (by decide +kernel)
/-- a number itself -/
def sp_copied_int : Sp := fun vs H Q _ => ∃ (v : Int), vs = [.int v] ∧ Q (.int v) H
theorem ok_copied_int (D : DefT K mg "copied" st_copied c) (T : Tx K mg aA) : C8.Cal P w K mg base 1 "copied" sp_copied_int [] := by
  refine cal_of D sc_copied (fun _ _ _ _ _ _ us hl => match us, hl with | [_], _ => rfl) (fun vs H Q E h => ?_) (fun f A outer s H vs Q E hr h => ?_)
  · obtain ⟨v, rfl, _⟩ := h
    rfl
  · obtain ⟨v, rfl, q⟩ := h
    have nd := sc_copied.nd
    refine ⟨_, (pss_cons (ps_if (pt_not (pt_val (pe_callB call_isi (by rfl) T.z_isinstance (by decide +kernel) (pa_cons (pv 0) (pa_cons (pe_bltn (v := .ty "list") (by rfl) T.z_list (by decide +kernel) rfl) pa_nil))))) (pss_one (ps_ret (pv 0))) pss_nil)
      (pss_cons (ps_set (i := 1) nd rfl (Or.inl rfl) (pe_callTy call_list_of (by rfl) T.z_list (by decide +kernel) (pa_cons (pv 0) pa_nil)))
      (pss_cons (ps_set (i := 2) nd rfl (Or.inl rfl) (pe_lst (pa_cons (pv 1) pa_nil)))
      (pss_cons (ps_while PassesOwn.never (pt_truth (pv 2) (by intro _; rfl)) (pss_cons (ps_set (i := 3) nd rfl (Or.inl rfl) (pe_bm0 PySem.F.plainAttrs_list PySem.F.slot_list_pop PySem.F.type_list_pop mt_pop (pv 2)))
      (pss_one (ps_for PassesOwn.never rfl (pi_range1 (by rfl) T.z_range (pa_cons (pe_callB call_len_seq (by rfl) T.z_len PySem.boot_len (pa_cons (pv 3) pa_nil)) pa_nil)) (pg_name (i := 4) nd rfl (Or.inl rfl)) (pss_one (ps_if (pt_val (pe_callB call_isi (by rfl) T.z_isinstance (by decide +kernel) (pa_cons (pe_ix ix_list (pv 3) (pv 4) (fun _ _ => rfl)) (pa_cons (pe_bltn (v := .ty "list") (by rfl) T.z_list (by decide +kernel) rfl) pa_nil)))) (pss_cons (ps_asg (pe_callTy call_list_of (by rfl) T.z_list (by decide +kernel) (pa_cons (pe_ix ix_list (pv 3) (pv 4) (fun _ _ => rfl)) pa_nil)) (pg_sub (pv 3) (pv 4) set_list))
      (pss_one (ps_expr (pe_bm PySem.F.plainAttrs_list PySem.F.slot_list_append PySem.F.type_list_append mt_append (pv 2) (pa_cons (pe_ix ix_list (pv 3) (pv 4) (fun _ _ => rfl)) pa_nil))))) pss_nil))))))
      (pss_one (ps_ret (pv 1))))))), ?_⟩
    exact ⟨_, rfl, .int v, .ty "list", .type "int", .type "list", false, rfl, .ty _, .base (.int v), kit_ty (by decide +kernel), false, rfl, iteT ⟨_, rfl, q⟩⟩
/-- a list, new, with those within new, too -/
def sp_copied_els (K : PySem.W.Frag) : Sp := fun vs H Q _ => ∃ (a : Addr) (xs : List V) (es : List El), vs = [.ref a] ∧ SqL K H a xs ∧ Paired (El.at_ K H) xs es ∧ es.length ≤ 1000 ∧
  ∀ (H' : Hp) (r q : Addr) (ns : List V), Kx H H' → H r = none → H' r = some (.lst ns) → Cp H H' r q ns es → Q (.ref r) H'
theorem ok_copied_els (D : DefT K mg "copied" st_copied c) (T : Tx K mg aA) : C8.Cal P w K mg base 1 "copied" (sp_copied_els K) [] := by
  refine cal_of D sc_copied (fun _ _ _ _ _ _ us hl => match us, hl with | [_], _ => rfl) (fun vs H Q E h => ?_) (fun f A outer s H vs Q E hr h => ?_)
  · obtain ⟨a, xs, es, rfl, _⟩ := h
    rfl
  · obtain ⟨a, xs, es, rfl, ha, hp, h1000, q⟩ := h
    have nd := sc_copied.nd
    have len := paired_len hp
    refine ⟨_, (pss_cons (ps_if (pt_not (pt_val (pe_callB call_isi (by rfl) T.z_isinstance (by decide +kernel) (pa_cons (pv 0) (pa_cons (pe_bltn (v := .ty "list") (by rfl) T.z_list (by decide +kernel) rfl) pa_nil))))) (pss_one (ps_ret (pv 0))) pss_nil)
      (pss_cons (ps_set (i := 1) nd rfl (Or.inl rfl) (pe_callTy call_list_of (by rfl) T.z_list (by decide +kernel) (pa_cons (pv 0) pa_nil)))
      (pss_cons (ps_set (i := 2) nd rfl (Or.inl rfl) (pe_lst (pa_cons (pv 1) pa_nil)))
      (pss_cons (ps_while PassesOwn.never (pt_truth (pv 2) (by intro _; rfl)) (pss_cons (ps_set (i := 3) nd rfl (Or.inl rfl) (pe_bm0 PySem.F.plainAttrs_list PySem.F.slot_list_pop PySem.F.type_list_pop mt_pop (pv 2)))
      (pss_one (ps_for PassesOwn.never rfl (pi_range1 (by rfl) T.z_range (pa_cons (pe_callB call_len_seq (by rfl) T.z_len PySem.boot_len (pa_cons (pv 3) pa_nil)) pa_nil)) (pg_name (i := 4) nd rfl (Or.inl rfl)) (pss_one (ps_if (pt_val (pe_callB call_isi (by rfl) T.z_isinstance (by decide +kernel) (pa_cons (pe_ix ix_list (pv 3) (pv 4) (fun _ _ => rfl)) (pa_cons (pe_bltn (v := .ty "list") (by rfl) T.z_list (by decide +kernel) rfl) pa_nil)))) (pss_cons (ps_asg (pe_callTy call_list_of (by rfl) T.z_list (by decide +kernel) (pa_cons (pe_ix ix_list (pv 3) (pv 4) (fun _ _ => rfl)) pa_nil)) (pg_sub (pv 3) (pv 4) set_list))
      (pss_one (ps_expr (pe_bm PySem.F.plainAttrs_list PySem.F.slot_list_append PySem.F.type_list_append mt_append (pv 2) (pa_cons (pe_ix ix_list (pv 3) (pv 4) (fun _ _ => rfl)) pa_nil))))) pss_nil))))))
      (pss_one (ps_ret (pv 1))))))), ?_⟩
    refine ⟨_, rfl, .ref a, .ty "list", .type "list", .type "list", true, rfl, .ty _, tyx_lst ha, kit_ty (by decide +kernel), true, rfl, iteF ?_⟩
    refine ⟨_, rfl, a, _, rfl, .inl ha, fun p np => ?_⟩
    have k0 : Kx H (upd H p (.lst xs)) := Kx.new np
    have hp0 : (upd H p (.lst xs)) p = some (.lst xs) := upd_same
    generalize upd H p (.lst xs) = H1 at k0 hp0 ⊢
    refine ⟨_, rfl, (by show 1 ≤ sizeLine; decide), fun b nb => ?_⟩
    have npb : p ≠ b := ne_of_none hp0 nb
    have k1 : Kx H1 (upd H1 b (.lst [.ref p])) := Kx.new nb
    have hb1 : (upd H1 b (.lst [.ref p])) b = some (.lst [.ref p]) := upd_same
    have hp1 := k1.lst hp0
    have nbH := k0.f _ nb
    have k01 := k0.trans k1
    generalize upd H1 b (.lst [.ref p]) = H1 at k01 hb1 hp1 ⊢
    let W : Nat → L2.St → Hp → Prop := fun m σ H2 => ∃ (v3 v4 : Option V), σ = [some (.ref a), some (.ref p), some (.ref b), v3, v4] ∧ Kx H H2 ∧
      ((m = xs.length + 1 ∧ H2 p = some (.lst xs) ∧ H2 b = some (.lst [.ref p])) ∨
       (∃ (ns : List V) (us : List Addr), H2 p = some (.lst ns) ∧ H2 b = some (.lst (us.map V.ref)) ∧ Cp H H2 p b ns es ∧ m = us.length ∧ ∀ u ∈ us, V.ref u ∈ ns))
    refine ⟨W, ⟨xs.length + 1, none, none, rfl, k01, .inl ⟨rfl, hp1, hb1⟩⟩, ?_⟩
    rintro m σ H2 ⟨v3, v4, rfl, k2, ⟨rfl, hp2, hb2⟩ | ⟨ns, us, hp2, hb2, cp, rfl, hus⟩⟩
    · -- the list itself
      refine ⟨_, rfl, true, .inl ⟨_, sq_of hb2, rfl⟩, iteT ⟨fun σ' H' => ∃ m', m' < xs.length + 1 ∧ W m' σ' H', fun _ _ h => h, ?_⟩⟩
      refine ⟨_, rfl, .inl ⟨rfl, _, sq_of hb2⟩, b, _, .ref p, rfl, rfl, hb2, rfl, ?_⟩
      rw [show ([V.ref p] : List V).dropLast = [] from rfl]
      have k3 : Kx H (upd H2 b (.lst [])) := k2.mut nbH
      have hp3 : (upd H2 b (.lst [])) p = some (.lst xs) := by rw [upd_ne npb]; exact hp2
      have hb3 : (upd H2 b (.lst [])) b = some (.lst []) := upd_same
      generalize upd H2 b (.lst []) = H3 at k3 hp3 hb3 ⊢
      refine ⟨_, rfl, p, _, rfl, .inl (sq_of hp3), (xs.length : Int), rfl, by omega, by omega, for_range (lo := 0) (n := xs.length) (fun i σ H2 => ∃ (v4 : Option V) (ns : List V) (us : List Addr),
        σ = [some (.ref a), some (.ref p), some (.ref b), some (.ref p), v4] ∧ Kx H H2 ∧ H2 p = some (.lst (ns ++ xs.drop i)) ∧ H2 b = some (.lst (us.map V.ref)) ∧ Cp H H2 p b ns (es.take i) ∧ (∀ u ∈ us, V.ref u ∈ ns) ∧ us.length ≤ i ∧ ns.length = i)
        ⟨v4, [], [], rfl, k3, hp3, hb3, Cp.nil, fun u h => absurd h (by simp), Nat.le_refl _, rfl⟩ ?_ ?_⟩
      · rintro i σ H4 hi ⟨v4, ns, us, rfl, k4, hp4, hb4, cp, hus, lus, lns⟩
        have ei : (0 : Int) + (i : Int) = ((i : Nat) : Int) := Int.zero_add _
        obtain ⟨v, hv⟩ : ∃ v, xs[i]? = some v := ⟨_, List.getElem?_eq_getElem hi⟩
        obtain ⟨e, he, hve⟩ := paired_at hp hv
        have hve4 := El.at_k k4 hve
        have edrop : xs.drop i = v :: xs.drop (i + 1) := by
          rw [List.drop_eq_getElem_cons hi]
          congr 1
          rw [List.getElem?_eq_getElem hi] at hv
          exact Option.some.inj hv
        have etake : es.take (i + 1) = es.take i ++ [e] := by rw [List.take_add_one, he] <;> rfl
        have hat : (ns ++ xs.drop i)[i]? = some v := by
          rw [List.getElem?_append_right (by omega), lns, Nat.sub_self, edrop] <;> rfl
        have eset : ∀ u, (ns ++ xs.drop i).set i u = (ns ++ [u]) ++ xs.drop (i + 1) := fun u => by
          rw [List.set_append_right _ _ (by omega), lns, Nat.sub_self, edrop, List.append_assoc] <;> rfl
        have lall : (ns ++ xs.drop i).length = xs.length := by
          rw [List.length_append, List.length_drop]
          omega
        cases e with
        | inl n =>
          obtain rfl : v = .int n := hve
          refine ⟨_, rfl, _, rfl, p, _, _, .int n, rfl, rfl, sq_of hp4, by rw [ei]; exact atI_nat hat, .int n, .ty "list", .type "int", .type "list", false, rfl, .ty _, .base (.int n), kit_ty (by decide +kernel), false, rfl, iteF ?_⟩
          refine ⟨_, ns ++ [.int n], us, rfl, k4, ?_, hb4, ?_, fun u hu => List.mem_append_left _ (hus u hu), by omega, by rw [List.length_append, lns]; rfl⟩
          · rw [List.append_assoc, List.singleton_append, ← edrop]
            exact hp4
          · rw [etake]
            exact cp.snoc (e := .inl n) rfl fun t z => nomatch z
        | inr r =>
          obtain ⟨t, rfl, ht, hr1000⟩ := hve4
          refine ⟨_, rfl, _, rfl, p, _, _, .ref t, rfl, rfl, sq_of hp4, by rw [ei]; exact atI_nat hat, .ref t, .ty "list", .type "list", .type "list", true, rfl, .ty _, tyx_lst ht, kit_ty (by decide +kernel), true, rfl, iteT ?_⟩
          refine ⟨_, rfl, _, rfl, p, _, _, .ref t, rfl, rfl, sq_of hp4, by rw [ei]; exact atI_nat hat, t, _, rfl, .inl ht, fun u nu => ?_⟩
          have k5 : Kx H4 (upd H4 u (.lst (r.map V.int))) := Kx.new nu
          have hu5 : (upd H4 u (.lst (r.map V.int))) u = some (.lst (r.map V.int)) := upd_same
          have hp5 := k5.lst hp4
          have hb5 := k5.lst hb4
          have nuH := k4.f _ nu
          have cp5 : Cp H (upd H4 u (.lst (r.map V.int))) p b ns (es.take i) := cp.mono fun t' o _ _ h n => k5.o _ _ h n
          have nup : u ≠ p := (ne_of_none hp4 nu).symm
          have nub : u ≠ b := (ne_of_none hb4 nu).symm
          have k45 := k4.trans k5
          have hnu : V.ref u ∉ ns := fun z => by
            obtain ⟨j, hj⟩ := List.mem_iff_getElem?.mp z
            obtain ⟨e', _, he'⟩ := paired_at cp.pr hj
            cases e' with
            | inl n => exact nomatch (show V.ref u = V.int n from he')
            | inr r' =>
              obtain ⟨t', e1, e2, _, _⟩ := he'
              cases e1
              rw [nu] at e2
              cases e2
          generalize upd H4 u (.lst (r.map V.int)) = H5 at k45 hu5 hp5 hb5 cp5 ⊢
          refine ⟨_, rfl, _, rfl, p, _, _, i, rfl, rfl, hp5, by rw [ei, lall]; exact ixn_at hi, ?_⟩
          rw [eset]
          have hp6 : (upd H5 p (.lst ((ns ++ [.ref u]) ++ xs.drop (i + 1)))) p = some (.lst ((ns ++ [.ref u]) ++ xs.drop (i + 1))) := upd_same
          have hb6 : (upd H5 p (.lst ((ns ++ [.ref u]) ++ xs.drop (i + 1)))) b = some (.lst (us.map V.ref)) := by rw [upd_ne npb.symm]; exact hb5
          have k6 : Kx H (upd H5 p (.lst ((ns ++ [.ref u]) ++ xs.drop (i + 1)))) := k45.mut np
          have hu6 : (upd H5 p (.lst ((ns ++ [.ref u]) ++ xs.drop (i + 1)))) u = some (.lst (r.map V.int)) := by rw [upd_ne nup]; exact hu5
          have cp6 : Cp H (upd H5 p (.lst ((ns ++ [.ref u]) ++ xs.drop (i + 1)))) p b ns (es.take i) := cp5.mono fun t' o n1 _ h _ => by rw [upd_ne n1]; exact h
          generalize upd H5 p (.lst ((ns ++ [.ref u]) ++ xs.drop (i + 1))) = H6 at hp6 hb6 k6 hu6 cp6 ⊢
          have hat6 : ((ns ++ [.ref u]) ++ xs.drop (i + 1))[i]? = some (.ref u) := by
            rw [List.append_assoc, List.getElem?_append_right (by omega), lns, Nat.sub_self] <;> rfl
          refine ⟨_, rfl, .inl ⟨rfl, _, sq_of hb6⟩, _, rfl, _, rfl, p, _, _, .ref u, rfl, rfl, sq_of hp6, by rw [ei]; exact atI_nat hat6, b, _, _, rfl, rfl, hb6, by rw [List.length_map]; exact lt80 (by omega), ?_⟩
          refine ⟨_, ns ++ [.ref u], us ++ [u], rfl, k6.mut nbH, ?_, ?_, ?_, fun y hy => ?_, by rw [List.length_append]; show us.length + 1 ≤ i + 1; omega, by rw [List.length_append, lns]; rfl⟩
          · rw [upd_ne npb]
            exact hp6
          · rw [upd_same, List.map_append] <;> rfl
          · rw [etake]
            refine (cp6.mono fun t' o _ n2 h _ => by rw [upd_ne n2]; exact h).snoc (e := .inr r) ⟨u, rfl, by rw [upd_ne nub]; exact hu6, nuH, hr1000⟩ fun t' z => ?_
            cases z
            exact ⟨nup, nub, hnu⟩
          · rcases List.mem_append.mp hy with hy | hy
            · exact List.mem_append_left _ (hus y hy)
            · rw [List.mem_singleton.mp hy]
              exact List.mem_append_right _ List.mem_cons_self
      · rintro σ H4 ⟨v4, ns, us, rfl, k4, hp4, hb4, cp, hus, lus, lns⟩
        rw [List.drop_length, List.append_nil] at hp4
        rw [len, List.take_length] at cp
        exact ⟨us.length, by omega, _, v4, rfl, k4, .inr ⟨ns, us, hp4, hb4, cp, rfl, hus⟩⟩
    · -- the lists within
      by_cases hu0 : us = []
      · subst hu0
        refine ⟨_, rfl, false, .inl ⟨_, sq_of hb2, rfl⟩, iteF ?_⟩
        exact ⟨_, rfl, q H2 p b ns k2 np hp2 cp⟩
      · obtain ⟨us', u, rfl⟩ : ∃ us' u, us = us' ++ [u] := ⟨us.dropLast, us.getLast hu0, (List.dropLast_concat_getLast hu0).symm⟩
        rw [List.map_append] at hb2
        refine ⟨_, rfl, true, .inl ⟨_, sq_of hb2, by cases us' <;> rfl⟩, iteT ⟨fun σ' H' => ∃ m', m' < (us' ++ [u]).length ∧ W m' σ' H', fun _ _ h => h, ?_⟩⟩
        refine ⟨_, rfl, .inl ⟨rfl, _, sq_of hb2⟩, b, _, .ref u, rfl, rfl, hb2, by rw [List.length_append, List.length_map]; show (_ ++ [V.ref u])[us'.length + 1 - 1]? = _; rw [Nat.add_sub_cancel, List.getElem?_append_right (by rw [List.length_map]; exact Nat.le_refl _), List.length_map, Nat.sub_self] <;> rfl, ?_⟩
        rw [show (us'.map V.ref ++ [u].map V.ref).dropLast = us'.map V.ref from List.dropLast_concat]
        obtain ⟨j, hj⟩ := List.mem_iff_getElem?.mp (hus u (by simp))
        obtain ⟨e', he0, he'⟩ := paired_at cp.pr hj
        have hd := cp.d u (hus u (by simp))
        cases e' with
        | inl n => exact nomatch (show V.ref u = V.int n from he')
        | inr r =>
          obtain ⟨t', e1, e2, _, hr1000⟩ := he'
          cases e1
          have k3 : Kx H (upd H2 b (.lst (us'.map V.ref))) := k2.mut nbH
          have hp3 : (upd H2 b (.lst (us'.map V.ref))) p = some (.lst ns) := by rw [upd_ne npb]; exact hp2
          have hb3 : (upd H2 b (.lst (us'.map V.ref))) b = some (.lst (us'.map V.ref)) := upd_same
          have hu3 : (upd H2 b (.lst (us'.map V.ref))) u = some (.lst (r.map V.int)) := by rw [upd_ne hd.2]; exact e2
          have cp3 : Cp H (upd H2 b (.lst (us'.map V.ref))) p b ns es := cp.mono fun t' o _ n2 h _ => by rw [upd_ne n2]; exact h
          generalize upd H2 b (.lst (us'.map V.ref)) = H3 at k3 hp3 hb3 hu3 cp3 ⊢
          refine ⟨_, rfl, u, _, rfl, .inl (sq_of hu3), ((r.map V.int).length : Int), rfl, by rw [List.length_map]; omega, by rw [List.length_map]; omega, for_range (lo := 0) (n := (r.map V.int).length) (fun i σ H4 => ∃ (v4 : Option V),
            σ = [some (.ref a), some (.ref p), some (.ref b), some (.ref u), v4] ∧ H4 = H3) ⟨v4, rfl, rfl⟩ ?_ ?_⟩
          · rintro i σ H4 hi ⟨v4, rfl, rfl⟩
            have ei : (0 : Int) + (i : Int) = ((i : Nat) : Int) := Int.zero_add _
            rw [List.length_map] at hi
            have hat : (r.map V.int)[i]? = some (.int r[i]) := by rw [List.getElem?_map, List.getElem?_eq_getElem hi] <;> rfl
            refine ⟨_, rfl, _, rfl, u, _, _, _, rfl, rfl, sq_of hu3, by rw [ei]; exact atI_nat hat, .int r[i], .ty "list", .type "int", .type "list", false, rfl, .ty _, .base (.int _), kit_ty (by decide +kernel), false, rfl, iteF ?_⟩
            exact ⟨_, rfl, rfl⟩
          · rintro σ H4 ⟨v4, rfl, rfl⟩
            exact ⟨us'.length, by rw [List.length_append]; show _ < us'.length + 1; omega, _, v4, rfl, k3, .inr ⟨ns, us', hp3, hb3, cp3, rfl, fun y hy => hus y (List.mem_append_left _ hy)⟩⟩
end
end CH
end

section
set_option Elab.async false
set_option linter.all false
set_option maxRecDepth 100000
set_option maxHeartbeats 4000000
namespace CH
open PySem PySem.Spec PyProof.Rows L2
open GxR (TabB TabG Tabbed)
theorem Cp.ints {H0 H : Hp} {p q : Addr} {ns : List V} {zs : List Int} (h : Cp H0 H p q ns (zs.map Sum.inl)) : ns = zs.map V.int := by
  have go : ∀ {ns : List V} {zs : List Int}, Paired (El.new H0 H) ns (zs.map Sum.inl) → ns = zs.map V.int := by
    intro ns zs
    induction zs generalizing ns with
    | nil => intro h; cases h; rfl
    | cons z zs ih =>
      intro h
      cases h with
      | cons a b => rw [show _ = V.int z from a, ih b] <;> rfl
  exact go h.pr
theorem Ke.mono {S S' : List Addr} {H H' : Hp} (h : ∀ b ∈ S, b ∈ S') (k : Ke S H H') : Ke S' H H' := ⟨fun b u n => k.o b u fun z => n (h b z), fun P n => k.g P fun z => n (h P z), k.f⟩
theorem SeatsAt.kx {cSe : Addr} {H H' : Hp} {a : Sa} {rows : Rows} {hs : List (Option Int)} {ps rs : List Int} {kvs : List (Key × V)} {hf : Int → Option Nat} (S : SeatsAt cSe H a rows hs ps rs kvs hf) (k : Kx H H') : SeatsAt cSe H' a rows hs ps rs kvs hf := S.ke k.ke (k.lst S.hp) (k.lst S.hr)
/-- a new one is changed -/
theorem SeatsAt.up {cSe : Addr} {H0 H : Hp} {a : Sa} {rows : Rows} {hs hs0 : List (Option Int)} {ps rs ps0 rs0 : List Int} {kvs kvs0 : List (Key × V)} {hf hf0 : Int → Option Nat} {p : Addr} {u : HO} (S : SeatsAt cSe H a rows hs ps rs kvs hf) (S0 : SeatsAt cSe H0 a rows hs0 ps0 rs0 kvs0 hf0) (n : H0 p = none) : SeatsAt cSe (upd H p u) a rows hs ps rs kvs hf := by
  have ne : ∀ {b : Addr} {v : HO}, H0 b = some v → b ≠ p := fun h z => by rw [z, n] at h; cases h
  refine ⟨by rw [upd_ne (ne S0.ob)]; exact S.ob, by rw [upd_ne (ne S0.hJ)]; exact S.hJ, paired_imp_mem (fun d hdm r z => ⟨?_, z.2⟩) S.hd, by rw [upd_ne (ne S0.hh)]; exact S.hh, by rw [upd_ne (ne S0.hp)]; exact S.hp, by rw [upd_ne (ne S0.hr)]; exact S.hr, by rw [upd_ne (ne S0.ho)]; exact S.ho, S.hf_, S.n1, S.n2, S.n3, S.nd⟩
  obtain ⟨i, hi⟩ := List.mem_iff_getElem?.mp hdm
  obtain ⟨r, _, h, _⟩ := paired_at S0.hd hi
  rw [upd_ne (ne h)]
  exact z.1
theorem JsAt.ok {H : Hp} {ds : List Addr} {rows : Rows} (h : JsAt H ds rows) : RowsOk rows := by
  have go : ∀ i, (canAt rows i).Nodup ∧ ∀ h ∈ canAt rows i, 0 ≤ h ∧ h ≤ 11 := fun i => by
    by_cases z : i < ds.length
    · obtain ⟨r, h1, h2, h3, h4, h5⟩ := paired_at h (List.getElem?_eq_getElem z)
      obtain ⟨e, _⟩ := canAt_of h1
      rw [e]
      exact ⟨h3, h5⟩
    · have : rows[i]? = none := List.getElem?_eq_none (by have := paired_len h; omega)
      unfold canAt
      rw [List.getD_eq_getElem?_getD, this]
      exact ⟨List.nodup_nil, fun h z => absurd z (by simp)⟩
  exact ⟨fun i => (go i).1, fun i => (go i).2⟩
theorem Search.rk12 {rows : Rows} {k : Nat} {hs : List (Option Int)} {ps rs : List Int} {hf : Int → Option Nat} {as : List Nat} {rk : List (Int × Nat)} (ok : RowsOk rows) (S : Search rows k hs ps rs hf as rk) : rk.length ≤ 12 := by
  have := nodup_sub_len (us := rk.map (·.1)) (ws := (List.range 12).map fun (i : Nat) => (i : Int)) S.nd fun x hx => by
    obtain ⟨p, hp, rfl⟩ := List.mem_map.mp hx
    obtain ⟨j, hj⟩ := List.mem_iff_getElem?.mp hp
    obtain ⟨q, _, _, h3, _⟩ := S.from_ j p hj
    have := ok.in_ _ _ h3
    exact List.mem_map.mpr ⟨p.1.toNat, List.mem_range.mpr (by omega), by show ((p.1.toNat : Nat) : Int) = p.1; omega⟩
  simpa using this
theorem waysL_mem {rows : Rows} {ps rs : List Int} {keys : List Int} {as : List Nat} {row : List Int} : row ∈ waysL rows ps rs keys as ↔ ∃ i ∈ as, ∃ h ∈ canAt rows i, h ∉ keys ∧ row = [cost rows i h - pr ps i - rn rs h, h, (i : Int)] := by
  unfold waysL
  rw [List.mem_flatMap]
  constructor
  · rintro ⟨i, hi, z⟩
    obtain ⟨h, hh, rfl⟩ := List.mem_map.mp z
    obtain ⟨h1, h2⟩ := List.mem_filter.mp hh
    exact ⟨i, hi, h, h1, by simpa using h2, rfl⟩
  · rintro ⟨i, hi, h, h1, h2, rfl⟩
    exact ⟨i, hi, List.mem_map.mpr ⟨h, List.mem_filter.mpr ⟨h1, by simpa using h2⟩, rfl⟩⟩
section
variable {P : Program} {w : World} {K : PySem.W.Frag} {mg : Str → Option Value} {base : Heap} {c aA cc cm cSe cTi cMo : Addr}
abbrev st_Tight_init : Stmt := inClass (top 43) 0
abbrev nm_Tight_init : List Str := ["self", "meetings", "hours"]
theorem sc_Tight_init : FnScope nm_Tight_init ["self", "meetings", "hours"] (defScope st_Tight_init) := C8.fnScope_by (by decide +kernel)
abbrev st_Seats_seat : Stmt := inClass (top 48) 5
abbrev nm_Seats_seat : List Str := ["self", "newcomer", "asking", "reached", "ways", "step", "hour", "meeting"]
theorem sc_Seats_seat : FnScope nm_Seats_seat ["self", "newcomer"] (defScope st_Seats_seat) := C8.fnScope_by (by decide +kernel)
def sp_Tight_init (K : PySem.W.Frag) (cTi : Addr) : Sp := fun vs H Q _ => ∃ (H0 : Hp) (x dx l l2 : Addr) (ms hs : List Int), vs = [.ref x, .ref l, .ref l2] ∧ H = upd (upd H0 dx (.own x)) x (.ins cTi dx []) ∧ H0 x = none ∧ H0 dx = none ∧ dx ≠ x ∧ SqL K H0 l (ms.map V.int) ∧ SqL K H0 l2 (hs.map V.int) ∧ ms.length ≤ 1000 ∧ hs.length ≤ 1000 ∧
  ∀ (H' : Hp) (r r2 : Addr), Kx H0 H' → H' x = some (.ins cTi dx [("meetings", .ref r), ("hours", .ref r2)]) → H0 r = none → H0 r2 = none → r ≠ r2 → H' r = some (.lst (ms.map V.int)) → H' r2 = some (.lst (hs.map V.int)) → Q .non H'
theorem ok_Tight_init (D : MakT K mg "Tight" cTi "Tight.__init__" st_Tight_init c) (e_Tight : Own K mg "Tight" cTi) (n1 : NoAttr K cTi "meetings") (n2 : NoAttr K cTi "hours") (f_copied : C8.Cal P w K mg base 1 "copied" (sp_copied_els K) []) : C8.Mak P w K mg base 2 "Tight" cTi (sp_Tight_init K cTi) [] := by
  refine mak_of D sc_Tight_init (fun _ _ _ _ _ _ us hl => match us, hl with | [_, _, _], _ => rfl) (fun vs H Q E h => ?_) (fun f A outer s H vs Q E hr h => ?_)
  · obtain ⟨H0, x, dx, l, l2, ms, hs, rfl, _⟩ := h
    rfl
  · obtain ⟨H0, x, dx, l, l2, ms, hs, rfl, rfl, nx, ndx, ndxx, hl, hl2, l1000, l21000, q⟩ := h
    have nd := sc_Tight_init.nd
    have k0 : Kx H0 (upd (upd H0 dx (.own x)) x (.ins cTi dx [])) := (Kx.new ndx).mut nx
    have hx0 : (upd (upd H0 dx (.own x)) x (.ins cTi dx [])) x = some (.ins cTi dx []) := upd_same
    refine ⟨_, (pss_cons (ps_fld (pv 0) (C8.pe_c f_copied hr (by decide) (by rfl) (pa_cons (pv 1) pa_nil)) rfl)
      (pss_one (ps_fld (pv 0) (C8.pe_c f_copied hr (by decide) (by rfl) (pa_cons (pv 2) pa_nil)) rfl))), ?_⟩
    generalize upd (upd H0 dx (.own x)) x (.ins cTi dx []) = H1 at k0 hx0 ⊢
    refine ⟨_, rfl, l, _, ms.map Sum.inl, rfl, k0.l hl, at_ints _, (by rw [List.length_map]; exact l1000), fun H2 r b ns k2 nr hr2 cp => ?_⟩
    rw [cp.ints] at hr2
    have hx2 := k2.o _ _ hx0 fun ps z => nomatch z
    have nrx : r ≠ x := fun z => by rw [z, hx0] at nr; cases nr
    have k02 := k0.trans k2
    refine ⟨_, rfl, x, cTi, dx, _, rfl, hx2, e_Tight.cl, n1, (by show 0 < 1000; decide), ?_⟩
    rw [show putF ("meetings" : Str) (.ref r) [] = [(("meetings" : Str), V.ref r)] from rfl]
    have k3 : Kx H0 (upd H2 x (.ins cTi dx [("meetings", .ref r)])) := k02.mut nx
    have hx3 : (upd H2 x (.ins cTi dx [("meetings", .ref r)])) x = some (.ins cTi dx [("meetings", .ref r)]) := upd_same
    have hr3 : (upd H2 x (.ins cTi dx [("meetings", .ref r)])) r = some (.lst (ms.map V.int)) := by rw [upd_ne nrx]; exact hr2
    generalize upd H2 x (.ins cTi dx [("meetings", .ref r)]) = H3 at k3 hx3 hr3 ⊢
    refine ⟨_, rfl, l2, _, hs.map Sum.inl, rfl, k3.l hl2, at_ints _, (by rw [List.length_map]; exact l21000), fun H4 r2 b2 ns2 k4 nr4 hr4 cp4 => ?_⟩
    rw [cp4.ints] at hr4
    have hx4 := k4.o _ _ hx3 fun ps z => nomatch z
    have nrx4 : r2 ≠ x := fun z => by rw [z, hx3] at nr4; cases nr4
    have nr2 : r ≠ r2 := fun z => by rw [← z, hr3] at nr4; cases nr4
    refine ⟨_, rfl, x, cTi, dx, _, rfl, hx4, e_Tight.cl, n2, (by show 1 < 1000; decide), ?_⟩
    rw [putF_new ["meetings"] rfl (by decide +kernel)]
    refine q _ r r2 ((k3.trans k4).mut nx) upd_same (k0.f _ nr) (k3.f _ nr4) nr2 ?_ ?_
    · rw [upd_ne nrx]
      exact k4.lst hr3
    · rw [upd_ne nrx4]
      exact hr4
def sp_seat (K : PySem.W.Frag) (cSe cTi : Addr) : Sp := fun vs H Q _ => ∃ (a : Sa) (rows : Rows) (k : Nat) (hs : List (Option Int)) (ps rs : List Int) (kvs : List (Key × V)) (hf : Int → Option Nat), vs = [.ref a.s, .int (k : Int)] ∧ SeatsAt cSe H a rows hs ps rs kvs hf ∧ Seated rows k hs ps rs hf ∧ k < rows.length ∧ rows.length ≤ 6 ∧ kvs.length ≤ 20 * k ∧
  (∀ (H' : Hp) (hs' : List (Option Int)) (ps' rs' : List Int) (kvs' : List (Key × V)) (hf' : Int → Option Nat), Ke [a.Hh, a.Pp, a.Rr, a.Ho] H H' → SeatsAt cSe H' a rows hs' ps' rs' kvs' hf' → Seated rows (k + 1) hs' ps' rs' hf' → kvs'.length ≤ 20 * (k + 1) → Q .non H') ∧
  (∀ (H' : Hp) (x dx r r2 : Addr) (as ks : List Int), Ke [a.Hh, a.Pp, a.Rr, a.Ho] H H' → H' x = some (.ins cTi dx [("meetings", .ref r), ("hours", .ref r2)]) → H x = none → H r = none → H r2 = none → r ≠ r2 → H' r = some (.lst (as.map V.int)) → H' r2 = some (.lst (ks.map V.int)) →
    as.Nodup → (∀ i ∈ as, 0 ≤ i ∧ i < rows.length) → ks.length < as.length → ks.Nodup → (∀ i ∈ as, ∀ h ∈ canAt rows i.toNat, h ∈ ks) → (∀ h ∈ ks, 0 ≤ h ∧ h ≤ 11) → Q (.ref x) H')
theorem ok_seat (D : MetT K cSe "seat" "Seats.seat" st_Seats_seat c) (T : Tx K mg aA) (e_Seats : Own K mg "Seats" cSe) (n5 : NoAttr K cSe "holders") (k_Tight : C8.Mak P w K mg base 2 "Tight" cTi (sp_Tight_init K cTi) []) (m_Seats_ways : C8.Met P w K mg base 2 cSe "ways" (sp_ways K cSe) []) (m_Seats_raise_prices : C8.Met P w K mg base 1 cSe "raise_prices" (sp_raise cSe) []) (m_Seats_hand_on : C8.Met P w K mg base 1 cSe "hand_on" (sp_hand cSe) []) : C8.Met P w K mg base 4 cSe "seat" (sp_seat K cSe cTi) [] := by
  refine met_of D sc_Seats_seat (fun _ _ _ _ _ _ us hl => match us, hl with | [_, _], _ => rfl) (fun vs H Q E h => ?_) (fun f A outer s H vs Q E hr h => ?_)
  · obtain ⟨a, rows, k, hs, ps, rs, kvs, hf, rfl, _⟩ := h
    rfl
  · obtain ⟨a, rows, k, hs, ps, rs, kvs, hf, rfl, S, Sd, kl, l6, lk, q1, q2⟩ := h
    have nd := sc_Seats_seat.nd
    have hu := hu_of hr
    refine ⟨_, (pss_cons (ps_set (i := 2) nd rfl (Or.inl rfl) (pe_lst (pa_cons (pv 1) pa_nil)))
      (pss_cons (ps_set (i := 3) nd rfl (Or.inl rfl) pe_dnewK)
      (pss_one (ps_while PassesOwn.never (pt_val pe_bl) (pss_cons (ps_set (i := 4) nd rfl (Or.inl rfl) (C8.pe_mt m_Seats_ways hr (by first | decide | exact hkp) (pv 0) (pa_cons (pv 2) (pa_cons (pv 3) pa_nil))))
      (pss_cons (ps_if (pt_not (pt_truth (pv 4) (by intro _; rfl))) (pss_one (ps_ret (C8.pe_mk k_Tight hr (by first | decide | exact hkp) (by rfl) (pa_cons (pe_callB cr_sortedI (by rfl) T.z_sorted (by decide +kernel) (pa_cons (pv 2) pa_nil)) (pa_cons (pe_callB (call_sortedDI (by rfl)) (by rfl) T.z_sorted (by decide +kernel) (pa_cons (pv 3) pa_nil)) pa_nil))))) pss_nil)
      (pss_cons (ps_asg (pe_callB (cr_minT hr.units) (by rfl) T.z_min (by decide +kernel) (pa_cons (pv 4) pa_nil)) (pg_tup (by rfl) (pgs_cons (pg_name (i := 5) nd rfl (Or.inl rfl)) (pgs_cons (pg_name (i := 6) nd rfl (Or.inl rfl)) (pgs_cons (pg_name (i := 7) nd rfl (Or.inl rfl)) pgs_nil)))))
      (pss_cons (ps_expr (C8.pe_mt m_Seats_raise_prices hr (by first | decide | exact hkp) (pv 0) (pa_cons (pv 2) (pa_cons (pv 3) (pa_cons (pv 5) pa_nil)))))
      (pss_cons (ps_dput hu (pv 3) (pv 6) (pv 7) rfl)
      (pss_cons (ps_if (pt_cmp (pc_dnotin hu (pv 6) (pe_fld (pv 0) rfl))) (pss_cons (ps_expr (C8.pe_mt m_Seats_hand_on hr (by first | decide | exact hkp) (pv 0) (pa_cons (pv 6) (pa_cons (pv 3) pa_nil))))
      (pss_one (ps_ret pe_non))) pss_nil)
      (pss_one (ps_expr (pe_bm PySem.F.plainAttrs_list PySem.F.slot_list_append PySem.F.type_list_append mt_append (pv 2) (pa_cons (pe_dget hu (pe_fld (pv 0) rfl) (pv 6) (fun _ _ => rfl)) pa_nil)))))))))))))), ?_⟩
    refine ⟨_, rfl, (by show 1 ≤ sizeLine; decide), fun la nla => ?_⟩
    have k1 : Kx H (upd H la (.lst [.int (k : Int)])) := Kx.new nla
    have hla1 : (upd H la (.lst [.int (k : Int)])) la = some (.lst [.int (k : Int)]) := upd_same
    generalize upd H la (.lst [.int (k : Int)]) = H1 at k1 hla1 ⊢
    intro lr nlr
    have k2 : Kx H (upd H1 lr (.dK [])) := k1.trans (Kx.new nlr)
    have nlar : la ≠ lr := fun z => by rw [← z, hla1] at nlr; cases nlr
    have hla2 : (upd H1 lr (.dK [])) la = some (.lst [.int (k : Int)]) := by rw [upd_ne nlar]; exact hla1
    have hlr2 : (upd H1 lr (.dK [])) lr = some (.dK []) := upd_same
    have nlr0 : H lr = none := k1.f _ nlr
    generalize upd H1 lr (.dK []) = H2 at k2 hla2 hlr2 ⊢
    have ok := S.hd.ok
    let I : Nat → L2.St → Hp → Prop := fun n σ H3 => ∃ (as : List Nat) (rk : List (Int × Nat)) (ps' rs' : List Int) (v4 v5 v6 v7 : Option V), σ = [some (.ref a.s), some (.int (k:Int)), some (.ref la), some (.ref lr), v4, v5, v6, v7] ∧ n = 13 - rk.length ∧ Ke [a.Pp, a.Rr] H H3 ∧ SeatsAt cSe H3 a rows hs ps' rs' kvs hf ∧ Search rows k hs ps' rs' hf as rk ∧ H3 la = some (.lst (as.map fun (i : Nat) => V.int (i : Int))) ∧ H3 lr = some (.dK (reachK rk))
    refine ⟨I, ⟨13, [k], [], ps, rs, none, none, none, none, rfl, rfl, k2.ke, S.kx k2, Sd.start kl, hla2, hlr2⟩, ?_⟩
    rintro n σ H3 ⟨as, rk, ps', rs', v4, v5, v6, v7, rfl, rfl, k3, S3, Se, hla3, hlr3⟩
    have rk12 := Search.rk12 ok Se
    refine ⟨true, rfl, iteT ⟨fun σ' H' => ∃ m', m' < 13 - rk.length ∧ I m' σ' H', fun _ _ h => h, ?_⟩⟩
    have lad : la ∉ a.ds := fun z => by
      obtain ⟨i, hi⟩ := List.mem_iff_getElem?.mp z
      obtain ⟨r, _, h, _⟩ := paired_at S.hd hi
      rw [nla] at h
      cases h
    have lrd : lr ∉ a.ds := fun z => by
      obtain ⟨i, hi⟩ := List.mem_iff_getElem?.mp z
      obtain ⟨r, _, h, _⟩ := paired_at S.hd hi
      rw [nlr0] at h
      cases h
    have SR : SeatsR cSe H3 a rows ps' rs' := ⟨S3.ob, S3.hJ, S3.hd.jl, S3.hp, S3.hr, Se.st.l2, Se.st.l3⟩
    refine ⟨_, rfl, a.s, a.dx, a.flds, rfl, S3.ob, rfl, _, rfl, _, rfl, a, rows, ps', rs', la, lr, as, rk, rfl, SR, S3.hd, S3.nd, hla3, Se.lt, by have := Se.len; omega, hlr3, lad, lrd, fun H4 r ts k4 nr4 hr4 hts => ?_⟩
    have k34 := k3.trans k4.ke
    have S4 := S3.kx k4
    have hla4 := k4.lst hla3
    have hlr4 := k4.o _ _ hlr3 fun ps z => nomatch z
    have lts := paired_len hts
    by_cases hw : ts = []
    · subst hw
      have ew : waysL rows ps' rs' (rk.map (·.1)) as = [] := List.eq_nil_of_length_eq_zero (by rw [← lts]; rfl)
      refine ⟨_, rfl, false, .inl ⟨_, sq_of hr4, rfl⟩, iteT ?_⟩
      refine ⟨_, rfl, la, as.map (fun i : Nat => (i : Int)), rfl, by rw [List.map_map]; exact sq_of hla4, fun ms lm pm srt nlm => ?_⟩
      have k5 : Kx H4 (upd H4 lm (.lst (ms.map V.int))) := Kx.new nlm
      have hlm5 : (upd H4 lm (.lst (ms.map V.int))) lm = some (.lst (ms.map V.int)) := upd_same
      have hlr5 := k5.o _ _ hlr4 fun ps z => nomatch z
      generalize upd H4 lm (.lst (ms.map V.int)) = H5 at k5 hlm5 hlr5 ⊢
      refine ⟨_, rfl, lr, reachK rk, rk.map (·.1), rfl, .inl hlr5, by unfold reachK; rw [List.map_map, List.map_map] <;> rfl, by rw [List.length_map]; omega, fun ks l2 pk srt2 nl2 => ?_⟩
      have k6 : Kx H5 (upd H5 l2 (.lst (ks.map V.int))) := Kx.new nl2
      have hlm6 := k6.lst hlm5
      have hl26 : (upd H5 l2 (.lst (ks.map V.int))) l2 = some (.lst (ks.map V.int)) := upd_same
      generalize upd H5 l2 (.lst (ks.map V.int)) = H6 at k6 hlm6 hl26 ⊢
      refine fun x dx nx ndx nxx => ?_
      have eml : ms.length = as.length := by rw [pm.length_eq, List.length_map]
      have ekl : ks.length = rk.length := by rw [pk.length_eq, List.length_map]
      have sl := Se.len
      refine ⟨H6, x, dx, lm, l2, ms, ks, rfl, rfl, nx, ndx, nxx, sq_of hlm6, sq_of hl26, by omega, by omega, fun H7 r1 r2 k7 hx7 nr nr2 nrr hr7 hr27 => ⟨rfl, ?_⟩⟩
      have k67 := (k5.trans k6).trans k7
      have kf : Ke [a.Hh, a.Pp, a.Rr, a.Ho] H H7 := (k34.mono fun b hb => by
        simp only [List.mem_cons, List.not_mem_nil, or_false] at hb ⊢
        rcases hb with h | h
        · exact .inr (.inl h)
        · exact .inr (.inr (.inl h))).trans k67.ke
      have z0 : ∀ {b : Addr}, H6 b = none → H b = none := fun h => k34.f _ ((k5.trans k6).f _ h)
      refine q2 H7 x dx r1 r2 ms ks kf hx7 (z0 nx) (z0 nr) (z0 nr2) nrr hr7 hr27 ?_ ?_ (by omega) ?_ ?_ ?_
      · refine pm.nodup_iff.mpr ?_
        have z0 : List.Pairwise (fun x y : Nat => x ≠ y) as := Se.asnd
        show List.Pairwise (fun x y : Int => x ≠ y) (as.map fun i : Nat => (i : Int))
        rw [List.pairwise_map]
        refine List.Pairwise.imp ?_ z0
        intro x y h z
        exact h (by omega)
      · intro i hi
        obtain ⟨j, hj, rfl⟩ := List.mem_map.mp (pm.mem_iff.mp hi)
        have := Se.lt j hj
        omega
      · exact pk.nodup_iff.mpr Se.nd
      · intro i hi h hh
        obtain ⟨j, hj, rfl⟩ := List.mem_map.mp (pm.mem_iff.mp hi)
        refine Decidable.byContradiction fun z => ?_
        have : [cost rows j h - pr ps' j - rn rs' h, h, (j : Int)] ∈ waysL rows ps' rs' (rk.map (·.1)) as := waysL_mem.mpr ⟨j, hj, h, hh, fun y => z (pk.mem_iff.mpr y), rfl⟩
        rw [ew] at this
        cases this
      · intro h hh
        obtain ⟨p, hp, rfl⟩ := List.mem_map.mp (pk.mem_iff.mp hh)
        obtain ⟨j, hj⟩ := List.mem_iff_getElem?.mp hp
        obtain ⟨_, _, _, h3, _⟩ := Se.from_ j p hj
        exact ok.in_ _ _ h3
    · refine ⟨_, rfl, true, .inl ⟨_, sq_of hr4, by cases ts with | nil => exact absurd rfl hw | cons _ _ => rfl⟩, iteF ?_⟩
      refine ⟨_, rfl, r, ts, waysL rows ps' rs' (rk.map (·.1)) as, rfl, sq_of hr4, paired_imp (fun _ _ z => .inl (.inl z)) hts, hw, fun row hrow => ?_, fun j t row ht hrow hmin => ?_⟩
      · obtain ⟨_, _, _, _, _, rfl⟩ := waysL_mem.mp hrow
        exact fun z => nomatch z
      obtain ⟨i, hi, h, hc, hn, rfl⟩ := waysL_mem.mp (List.mem_of_getElem? hrow)
      obtain ⟨row', hrow', htup⟩ := paired_at hts ht
      rw [hrow] at hrow'
      have er' := Option.some.inj hrow'
      subst er'
      refine ⟨t, _, rfl, .inl (.inl htup), rfl, ?_⟩
      have hil := Se.lt i hi
      have hx0 : 0 ≤ cost rows i h - pr ps' i - rn rs' h := by
        have := Se.st.bound i hil h hc
        omega
      have hmn : ∀ i2 ∈ as, ∀ h2 ∈ canAt rows i2, h2 ∉ rk.map (·.1) → cost rows i h - pr ps' i - rn rs' h ≤ cost rows i2 h2 - pr ps' i2 - rn rs' h2 := fun i2 a1 h2 a2 a3 => hmin _ (waysL_mem.mpr ⟨i2, a1, h2, a2, a3, rfl⟩)
      generalize hx : cost rows i h - pr ps' i - rn rs' h = x at hx0 hmn ⊢
      have ne0 : ∀ {b : Addr} {v : HO} {q : Addr}, H b = some v → H q = none → q ≠ b := fun h1 h2 z => by rw [z, h1] at h2; cases h2
      have rin : ∀ h ∈ rk.map (·.1), 0 ≤ h ∧ h ≤ 11 := fun h hh => by
        obtain ⟨p, hp, rfl⟩ := List.mem_map.mp hh
        obtain ⟨j, hj⟩ := List.mem_iff_getElem?.mp hp
        obtain ⟨_, _, _, h3, _⟩ := Se.from_ j p hj
        exact ok.in_ _ _ h3
      refine ⟨_, _, rfl, _, _, rfl, _, _, rfl, rfl, ?_⟩
      refine ⟨_, rfl, a.s, a.dx, a.flds, rfl, S4.ob, rfl, _, rfl, _, rfl, _, rfl, a, rows, hs, ps', rs', kvs, hf, la, lr, as, rk, x, rfl, S4, hla4, hlr4, ne0 S.hp nla, ne0 S.hr nla, Se.asnd, Se.lt, Se.nd, rin, Se.st.l2, Se.st.l3, fun H5 ps5 rs5 k5 S5 lp5 lr5 ep er => ?_⟩
      have Se5 : Search rows k hs ps5 rs5 hf as rk := Search.raise ok Se hx0 hmn lp5 lr5 (fun i _ => ep i) er fun h2 h20 => by
        have e0 : rn rs5 h2 = rn rs5 0 := by unfold rn; rw [show h2.toNat = 0 by omega]; rfl
        have := er 0 (Int.le_refl _)
        have := Se.st.neg 0
        rw [e0]
        split at * <;> omega
      have htt : pr ps5 i + rn rs5 h = cost rows i h := by
        have := ok.in_ i h hc
        rw [ep i, if_pos hi, er h this.1, if_neg hn]
        omega
      have k35 := k34.trans k5
      have hla5 : H5 la = some (.lst (as.map fun (i : Nat) => V.int (i : Int))) := k5.o _ _ (by simp only [List.mem_cons, List.not_mem_nil, or_false, not_or]; exact ⟨ne0 S.hp nla, ne0 S.hr nla⟩) hla4 fun ps z => nomatch z
      have hlr5 : H5 lr = some (.dK (reachK rk)) := k5.o _ _ (by simp only [List.mem_cons, List.not_mem_nil, or_false, not_or]; exact ⟨ne0 S.hp nlr0, ne0 S.hr nlr0⟩) hlr4 fun ps z => nomatch z
      have lrl : (reachK rk).length = rk.length := by unfold reachK; rw [List.length_map]
      refine ⟨_, rfl, _, rfl, _, rfl, lr, _, rfl, DPut.k (k := Sum.inl h) hlr5 (lt80 (by omega)), ?_⟩
      have ep6 : putK (reachK rk) (Sum.inl h) (.int (i : Int)) = reachK (rk ++ [(h, i)]) := by
        have g : valV (reachK rk) (Sum.inl h) = none := by
          have z := reach_get (h := h) (rk := rk)
          rw [decide_eq_false hn] at z
          cases y : valV (reachK rk) (Sum.inl h) with
          | none => rfl
          | some v => rw [y] at z; cases z
        rw [putK_new _ g]
        unfold reachK
        rw [List.map_append] <;> rfl
      rw [ep6]
      have k6 : Ke [a.Pp, a.Rr] H (upd H5 lr (.dK (reachK (rk ++ [(h, i)])))) := k35.fresh nlr0
      have S6 : SeatsAt cSe (upd H5 lr (.dK (reachK (rk ++ [(h, i)])))) a rows hs ps5 rs5 kvs hf := S5.up S nlr0
      have hla6 : (upd H5 lr (.dK (reachK (rk ++ [(h, i)])))) la = some (.lst (as.map fun (i : Nat) => V.int (i : Int))) := by rw [upd_ne nlar]; exact hla5
      have hlr6 : (upd H5 lr (.dK (reachK (rk ++ [(h, i)])))) lr = some (.dK (reachK (rk ++ [(h, i)]))) := upd_same
      generalize upd H5 lr (.dK (reachK (rk ++ [(h, i)]))) = H6 at k6 S6 hla6 hlr6 ⊢
      have hget := S6.hf_ h
      refine ⟨_, rfl, _, rfl, a.s, cSe, a.dx, _, _, rfl, S6.ob, e_Seats.cl, n5, fld_holders a, a.Ho, _, rfl, DGet.k (k := Sum.inl h) S6.ho, ?_⟩
      rw [hget]
      cases hfh : hf h with
      | none =>
        refine ⟨true, rfl, iteT ?_⟩
        refine ⟨_, rfl, a.s, a.dx, a.flds, rfl, S6.ob, rfl, _, rfl, _, rfl, a, rows, hs, hs, ps5, rs5, kvs, hf, hf, lr, as, rk ++ [(h, i)], some h, rk.length, k, rfl, S6, hlr6, ne0 S.ho nlr0, Search.way Se5 hi hc hn htt, Search.hand Se5 hfh, by omega, fun H7 hs7 kvs7 hf7 j7 k7 S7 Hd7 lk7 => ?_⟩
        refine q1 H7 hs7 ps5 rs5 kvs7 hf7 ?_ S7 (Hand.done Se5.st Hd7) (by omega)
        refine Ke.trans (k6.mono fun b hb => ?_) (k7.mono fun b hb => ?_)
        · simp only [List.mem_cons, List.not_mem_nil, or_false] at hb ⊢
          rcases hb with h | h
          · exact .inr (.inl h)
          · exact .inr (.inr (.inl h))
        · simp only [List.mem_cons, List.not_mem_nil, or_false] at hb ⊢
          rcases hb with h | h
          · exact .inl h
          · exact .inr (.inr (.inr h))
      | some i2 =>
        refine ⟨false, rfl, iteF ?_⟩
        have Se7 := Search.more Se5 hi hc hn htt hfh
        refine ⟨_, rfl, .inl ⟨rfl, _, sq_of hla6⟩, _, rfl, a.s, cSe, a.dx, _, _, rfl, S6.ob, e_Seats.cl, n5, fld_holders a, _, rfl, a.Ho, .int (i2 : Int), rfl, ?_, la, _, .int (i2 : Int), rfl, rfl, hla6, lt80 (by rw [List.length_map]; have := Se.len; omega), ?_⟩
        · have z := DGet.k (k := Sum.inl h) S6.ho
          rw [hget, hfh] at z
          exact z
        have Ke7 : Ke [a.Pp, a.Rr] H (upd H6 la (.lst ((as.map fun (i : Nat) => V.int (i : Int)) ++ [.int (i2 : Int)]))) := k6.fresh nla
        refine ⟨13 - (rk ++ [(h, i)]).length, by rw [List.length_append]; show 13 - (rk.length + 1) < 13 - rk.length; omega, as ++ [i2], rk ++ [(h, i)], ps5, rs5, _, _, _, _, rfl, rfl, Ke7, S6.up S nla, Se7, ?_, by rw [upd_ne nlar.symm]; exact hlr6⟩
        rw [upd_same, List.map_append] <;> rfl
end
end CH
end

section
set_option Elab.async false
set_option linter.all false
set_option maxRecDepth 100000
set_option maxHeartbeats 4000000
namespace CH
open PySem PySem.Spec PyProof.Rows L2
open GxR (TabB TabG Tabbed)
section
variable {P : Program} {w : World} {K : PySem.W.Frag} {mg : Str → Option Value} {base : Heap} {c aA cc cm : Addr}
end
end CH
end

section
set_option Elab.async false
set_option linter.all false
set_option maxRecDepth 100000
set_option maxHeartbeats 4000000
namespace CH
open PySem PySem.Spec PyProof.Rows L2
open GxR (TabB TabG Tabbed)
theorem sql_eq {K : PySem.W.Frag} {H G : Hp} {a : Addr} {xs : List V} (e : G a = H a) (h : SqL K H a xs) : SqL K G a xs := by
  unfold SqL Rd at *
  rw [e]
  exact h
section
variable {P : Program} {w : World} {K : PySem.W.Frag} {mg : Str → Option Value} {base : Heap} {c aA cc cm cSe cTi cMo : Addr}
abbrev st_Moved_init : Stmt := inClass (top 42) 0
abbrev nm_Moved_init : List Str := ["self", "hours", "prices", "rents"]
theorem sc_Moved_init : FnScope nm_Moved_init ["self", "hours", "prices", "rents"] (defScope st_Moved_init) := C8.fnScope_by (by decide +kernel)
def sp_Moved_init (K : PySem.W.Frag) (cMo : Addr) : Sp := fun vs H Q _ => ∃ (H0 : Hp) (x dx l l2 l3 : Addr) (hs : List V) (es : List El) (ps rs : List Int), vs = [.ref x, .ref l, .ref l2, .ref l3] ∧ H = upd (upd H0 dx (.own x)) x (.ins cMo dx []) ∧ H0 x = none ∧ H0 dx = none ∧ dx ≠ x ∧ SqL K H0 l hs ∧ (∃ zs : List Int, hs = zs.map V.int) ∧ SqL K H0 l2 (ps.map V.int) ∧ SqL K H0 l3 (rs.map V.int) ∧ hs.length ≤ 1000 ∧ ps.length ≤ 1000 ∧ rs.length ≤ 1000 ∧
  ∀ (H' : Hp) (r r2 r3 : Addr), Kx H0 H' → H' x = some (.ins cMo dx [("hours", .ref r), ("prices", .ref r2), ("rents", .ref r3)]) → H0 r = none → H0 r2 = none → H0 r3 = none → r ≠ r2 ∧ r ≠ r3 ∧ r2 ≠ r3 → H' r = some (.lst hs) → H' r2 = some (.lst (ps.map V.int)) → H' r3 = some (.lst (rs.map V.int)) → Q .non H'
theorem ok_Moved_init (D : MakT K mg "Moved" cMo "Moved.__init__" st_Moved_init c) (e_Moved : Own K mg "Moved" cMo) (n1 : NoAttr K cMo "hours") (n2 : NoAttr K cMo "prices") (n3 : NoAttr K cMo "rents") (f_copied : C8.Cal P w K mg base 1 "copied" (sp_copied_els K) []) : C8.Mak P w K mg base 2 "Moved" cMo (sp_Moved_init K cMo) [] := by
  refine mak_of D sc_Moved_init (fun _ _ _ _ _ _ us hl => match us, hl with | [_, _, _, _], _ => rfl) (fun vs H Q E h => ?_) (fun f A outer s H vs Q E hr h => ?_)
  · obtain ⟨H0, x, dx, l, l2, l3, hs, es, ps, rs, rfl, _⟩ := h
    rfl
  · obtain ⟨H0, x, dx, l, l2, l3, hs, es, ps, rs, rfl, rfl, nx, ndx, ndxx, hl, ⟨zs, rfl⟩, hl2, hl3, l1000, l21000, l31000, q⟩ := h
    rw [List.length_map] at l1000
    have nd := sc_Moved_init.nd
    have k0 : Kx H0 (upd (upd H0 dx (.own x)) x (.ins cMo dx [])) := (Kx.new ndx).mut nx
    have hx0 : (upd (upd H0 dx (.own x)) x (.ins cMo dx [])) x = some (.ins cMo dx []) := upd_same
    refine ⟨_, (pss_cons (ps_fld (pv 0) (C8.pe_c f_copied hr (by decide) (by rfl) (pa_cons (pv 1) pa_nil)) rfl)
      (pss_cons (ps_fld (pv 0) (C8.pe_c f_copied hr (by decide) (by rfl) (pa_cons (pv 2) pa_nil)) rfl)
      (pss_one (ps_fld (pv 0) (C8.pe_c f_copied hr (by decide) (by rfl) (pa_cons (pv 3) pa_nil)) rfl)))), ?_⟩
    generalize upd (upd H0 dx (.own x)) x (.ins cMo dx []) = H1 at k0 hx0 ⊢
    refine ⟨_, rfl, l, _, zs.map Sum.inl, rfl, k0.l hl, at_ints _, (by rw [List.length_map]; exact l1000), fun H2 r b ns k2 nr hr2 cp => ?_⟩
    rw [cp.ints] at hr2
    have hx2 := k2.o _ _ hx0 fun ps z => nomatch z
    have nrx : r ≠ x := fun z => by rw [z, hx0] at nr; cases nr
    have k02 := k0.trans k2
    refine ⟨_, rfl, x, cMo, dx, _, rfl, hx2, e_Moved.cl, n1, (by show 0 < 1000; decide), ?_⟩
    rw [show putF ("hours" : Str) (.ref r) [] = [(("hours" : Str), V.ref r)] from rfl]
    have k3 : Kx H0 (upd H2 x (.ins cMo dx [("hours", .ref r)])) := k02.mut nx
    have hx3 : (upd H2 x (.ins cMo dx [("hours", .ref r)])) x = some (.ins cMo dx [("hours", .ref r)]) := upd_same
    have hr3 : (upd H2 x (.ins cMo dx [("hours", .ref r)])) r = some (.lst (zs.map V.int)) := by rw [upd_ne nrx]; exact hr2
    generalize upd H2 x (.ins cMo dx [("hours", .ref r)]) = H3 at k3 hx3 hr3 ⊢
    refine ⟨_, rfl, l2, _, ps.map Sum.inl, rfl, k3.l hl2, at_ints _, (by rw [List.length_map]; exact l21000), fun H4 r2 b2 ns2 k4 nr4 hr4 cp4 => ?_⟩
    rw [cp4.ints] at hr4
    have hx4 := k4.o _ _ hx3 fun ps z => nomatch z
    have nrx4 : r2 ≠ x := fun z => by rw [z, hx3] at nr4; cases nr4
    have nr2 : r ≠ r2 := fun z => by rw [← z, hr3] at nr4; cases nr4
    refine ⟨_, rfl, x, cMo, dx, _, rfl, hx4, e_Moved.cl, n2, (by show 1 < 1000; decide), ?_⟩
    rw [putF_new ["hours"] rfl (by decide +kernel)]
    rw [show ([("hours", V.ref r)] : List (Str × V)) ++ ([(("prices" : Str), V.ref r2)] : List (Str × V)) = ([("hours", .ref r), ("prices", .ref r2)] : List (Str × V)) from rfl]
    have k5 : Kx H0 (upd H4 x (.ins cMo dx [("hours", .ref r), ("prices", .ref r2)])) := (k3.trans k4).mut nx
    have hx5 : (upd H4 x (.ins cMo dx [("hours", .ref r), ("prices", .ref r2)])) x = some (.ins cMo dx [("hours", .ref r), ("prices", .ref r2)]) := upd_same
    have hr5 : (upd H4 x (.ins cMo dx [("hours", .ref r), ("prices", .ref r2)])) r = some (.lst (zs.map V.int)) := by rw [upd_ne nrx]; exact k4.lst hr3
    have hr25 : (upd H4 x (.ins cMo dx [("hours", .ref r), ("prices", .ref r2)])) r2 = some (.lst (ps.map V.int)) := by rw [upd_ne nrx4]; exact hr4
    generalize upd H4 x (.ins cMo dx [("hours", .ref r), ("prices", .ref r2)]) = H5 at k5 hx5 hr5 hr25 ⊢
    refine ⟨_, rfl, l3, _, rs.map Sum.inl, rfl, k5.l hl3, at_ints _, (by rw [List.length_map]; exact l31000), fun H6 r3 b3 ns3 k6 nr6 hr6 cp6 => ?_⟩
    rw [cp6.ints] at hr6
    have hx6 := k6.o _ _ hx5 fun ps z => nomatch z
    have nrx6 : r3 ≠ x := fun z => by rw [z, hx5] at nr6; cases nr6
    have nr13 : r ≠ r3 := fun z => by rw [← z, hr5] at nr6; cases nr6
    have nr23 : r2 ≠ r3 := fun z => by rw [← z, hr25] at nr6; cases nr6
    refine ⟨_, rfl, x, cMo, dx, _, rfl, hx6, e_Moved.cl, n3, (by show 2 < 1000; decide), ?_⟩
    rw [putF_new ["hours", "prices"] rfl (by decide +kernel)]
    refine q _ r r2 r3 ((k5.trans k6).mut nx) upd_same (k0.f _ nr) (k3.f _ nr4) (k5.f _ nr6) ⟨nr2, nr13, nr23⟩ ?_ ?_ ?_
    · rw [upd_ne nrx]
      exact k6.lst hr5
    · rw [upd_ne nrx4]
      exact k6.lst hr25
    · rw [upd_ne nrx6]
      exact hr6
/-- whether no price and rent are above a jump, one for each meeting and hour -/
def fits (rows : Rows) (ps rs : List Int) (n : Nat) : List Bool := (List.range n).flatMap fun i => (canAt rows i).map fun h => decide (pr ps i + rn rs h ≤ cost rows i h)
end
end CH
end

section
set_option Elab.async false
set_option linter.all false
set_option maxRecDepth 100000
set_option maxHeartbeats 4000000
namespace CH
open PySem PySem.Spec PyProof.Rows L2
open GxR (TabB TabG Tabbed)
/-- hours of all meetings -/
def cansL (ms : List Mt) (ws : List Wd) : List (List Int) := ms.map fun m => hoursL m ["yes"] (ansF ws)
theorem jrows_can {ms : List Mt} {olds : List (Option Int)} {ws : List Wd} (lo : olds.length = ms.length) (i : Nat) : canAt (jrows ms olds ws) i = (cansL ms ws).getD i [] ∧ (i < ms.length → ∀ h, cost (jrows ms olds ws) i h = jumpZ (olds.getD i none) h) := by
  by_cases z : i < ms.length
  · have zo : i < olds.length := by omega
    have e : (jrows ms olds ws)[i]? = some (hoursL ms[i] ["yes"] (ansF ws), olds[i]) := by
      unfold jrows
      rw [List.getElem?_map, zip_at (List.getElem?_eq_getElem z) (List.getElem?_eq_getElem zo)] <;> rfl
    obtain ⟨e1, e2⟩ := canAt_of e
    refine ⟨?_, fun _ h => ?_⟩
    · rw [e1, List.getD_eq_getElem?_getD]
      unfold cansL
      rw [List.getElem?_map, List.getElem?_eq_getElem z] <;> rfl
    · rw [e2 h, List.getD_eq_getElem?_getD, List.getElem?_eq_getElem zo] <;> rfl
  · refine ⟨?_, fun y => absurd y z⟩
    unfold canAt
    have e : (jrows ms olds ws)[i]? = none := List.getElem?_eq_none (by unfold jrows; rw [List.length_map, List.length_zip]; omega)
    have e2 : (cansL ms ws)[i]? = none := List.getElem?_eq_none (by unfold cansL; rw [List.length_map]; omega)
    rw [List.getD_eq_getElem?_getD, e, List.getD_eq_getElem?_getD, e2] <;> rfl
theorem jrows_len {ms : List Mt} {olds : List (Option Int)} {ws : List Wd} (lo : olds.length = ms.length) : (jrows ms olds ws).length = ms.length := by
  unfold jrows
  rw [List.length_map, List.length_zip]
  omega
/-- what is told to be moved, as it is looked at -/
theorem movedB_eq {ms : List Mt} {olds : List (Option Int)} {ws : List Wd} {spots ps rs : List Int} (lo : olds.length = ms.length) : movedB (cansL ms ws) olds spots ps rs =
    (decide (spots.length = ms.length ∧ ps.length = ms.length ∧ rs.length = 12) && ((decide spots.Nodup && (List.range (jrows ms olds ws).length).all fun i => decide (spots.getD i 0 ∈ canAt (jrows ms olds ws) i)) && (((rs.all fun x => decide (x ≤ 0)) && (fits (jrows ms olds ws) ps rs (jrows ms olds ws).length).all id) &&
      decide (((List.range (jrows ms olds ws).length).map fun i => cost (jrows ms olds ws) i (spots.getD i 0)).sum = ps.sum + rs.sum)))) := by
  have lc : (cansL ms ws).length = ms.length := by unfold cansL; rw [List.length_map]
  have l2 := jrows_len (ws := ws) lo
  unfold movedB
  rw [lc, l2]
  have eA : ((List.range ms.length).all fun i => decide (spots.getD i 0 ∈ canAt (jrows ms olds ws) i)) = (List.range ms.length).all fun i => decide (spots.getD i 0 ∈ (cansL ms ws).getD i []) := by
    refine congrArg (fun f => (List.range ms.length).all f) (funext fun i => ?_)
    rw [(jrows_can lo i).1]
  have eF : (fits (jrows ms olds ws) ps rs ms.length).all id = (List.range ms.length).all fun i => ((cansL ms ws).getD i []).all fun h => decide (ps.getD i 0 + rs.getD h.toNat 0 ≤ jumpZ (olds.getD i none) h) := by
    unfold fits
    rw [List.all_flatMap, Bool.eq_iff_iff, List.all_eq_true, List.all_eq_true]
    refine forall_congr' fun i => forall_congr' fun hi => ?_
    obtain ⟨e1, e2⟩ := jrows_can (ws := ws) lo i
    rw [e1, List.all_map]
    have e2 := e2 (List.mem_range.mp hi)
    have : (id ∘ fun h => decide (pr ps i + rn rs h ≤ cost (jrows ms olds ws) i h)) = fun h => decide (ps.getD i 0 + rs.getD h.toNat 0 ≤ jumpZ (olds.getD i none) h) := funext fun h => by
      show decide (pr ps i + rn rs h ≤ cost (jrows ms olds ws) i h) = _
      rw [e2 h]
      rfl
    rw [this]
  have eS : ((List.range ms.length).map fun i => cost (jrows ms olds ws) i (spots.getD i 0)) = (List.range ms.length).map fun i => jumpZ (olds.getD i none) (spots.getD i 0) := by
    refine List.map_congr_left fun i hi => ?_
    exact (jrows_can lo i).2 (List.mem_range.mp hi) _
  rw [eA, eF, eS, Bool.decide_and, Bool.decide_and]
  generalize decide (spots.length = ms.length) = b1
  generalize decide (ps.length = ms.length) = b2
  generalize decide (rs.length = 12) = b3
  generalize decide spots.Nodup = b4
  generalize (rs.all fun x => decide (x ≤ 0)) = b5
  generalize ((List.range ms.length).all fun i => decide (spots.getD i 0 ∈ (cansL ms ws).getD i [])) = b6
  generalize ((List.range ms.length).all fun i => ((cansL ms ws).getD i []).all fun h => decide (ps.getD i 0 + rs.getD h.toNat 0 ≤ jumpZ (olds.getD i none) h)) = b7
  generalize decide (((List.range ms.length).map fun i => jumpZ (olds.getD i none) (spots.getD i 0)).sum = ps.sum + rs.sum) = b8
  cases b1 <;> cases b2 <;> cases b3 <;> cases b4 <;> cases b5 <;> cases b6 <;> cases b7 <;> cases b8 <;> rfl
def itD (ns : List Int) : PyData := .tuple (ns.map PyData.int)
theorem itD_eqv (xs ys : List Int) : PyData.eqv (itD xs) (itD ys) = decide (xs = ys) := eqvAll_map int_eqv xs ys
theorem itD_dp {K : PySem.W.Frag} {H : Hp} {l : Addr} {ns : List Int} (h : SqT K H l (ns.map V.int)) : Dp K H (.ref l) (itD ns) := .tup h (ints_dp ns)
theorem itD_sh (ns : List Int) : SeqAt.shaped (itD ns) = true := by
  unfold SeqAt.shaped itD
  simp only [PyData.canLay0, ints_lay, PyData.depth, ints_depth]
  rfl
section
variable {P : Program} {w : World} {K : PySem.W.Frag} {mg : Str → Option Value} {base : Heap} {c aA cc cm cSe cTi cMo : Addr}
end
end CH
end

section
set_option Elab.async false
set_option linter.all false
set_option maxRecDepth 100000
set_option maxHeartbeats 4000000
namespace CH
open PySem PySem.Spec PyProof.Rows L2
open GxR (TabB TabG Tabbed)
theorem met_nodup {ns : List Int} : ∀ i, (met ns i).Nodup
  | 0 => List.nodup_nil
  | i + 1 => by
    rw [met_succ]
    by_cases h : ((met ns i).any (· == ns.getD i 0)) = true
    · rw [if_pos h]
      exact met_nodup i
    · rw [if_neg h]
      refine List.nodup_append.mpr ⟨met_nodup i, List.nodup_cons.mpr ⟨by simp, List.nodup_nil⟩, fun a ha b hb e => h ?_⟩
      rw [List.mem_singleton.mp hb] at e
      exact List.any_eq_true.mpr ⟨a, ha, by rw [e]; exact beq_self_eq_true _⟩
theorem dis_len {ns out : List Int} (hs : out.Pairwise (· < ·)) (hm : ∀ k : Int, k ∈ out ↔ k ∈ ns) : out.length = dis ns := by
  have nd : out.Nodup := hs.imp fun {a b} h e => by omega
  have mm : ∀ k, k ∈ met ns ns.length ↔ k ∈ ns := fun k => by
    have := (met_spec (ns := ns) ns.length (Nat.le_refl _)).1 k
    rwa [List.take_length] at this
  have a := nodup_sub_len nd fun x hx => (mm x).mpr ((hm x).mp hx)
  have b := nodup_sub_len (met_nodup (ns := ns) ns.length) fun x hx => (hm x).mpr ((mm x).mp hx)
  unfold dis
  omega
section
variable {P : Program} {w : World} {K : PySem.W.Frag} {mg : Str → Option Value} {base : Heap} {c aA cc cm cSe cTi cMo : Addr}
end
end CH
end

section
set_option Elab.async false
set_option linter.all false
set_option maxRecDepth 100000
set_option maxHeartbeats 4000000
namespace CH
open PySem PySem.Spec PyProof.Rows L2
open GxR (TabB TabG Tabbed)
theorem AllAt.moved {ms : List Mt} {olds : List (Option Int)} {ws : List Wd} {zs ps rs : List Int} (lo : olds.length = ms.length) (S : AllAt (jrows ms olds ws) zs ps rs) : movedB (cansL ms ws) olds zs ps rs = true := by
  have lr := jrows_len (ws := ws) lo
  rw [movedB_eq lo, decide_eq_true ⟨by rw [S.l1, lr], by rw [S.l2, lr], S.l3⟩, decide_eq_true S.nd, decide_eq_true S.sum, Bool.true_and, Bool.true_and, Bool.and_true, Bool.and_eq_true, Bool.and_eq_true]
  refine ⟨List.all_eq_true.mpr fun i hi => decide_eq_true (S.in_ i (List.mem_range.mp hi)), List.all_eq_true.mpr fun x hx => decide_eq_true (S.neg x hx), List.all_eq_true.mpr fun b hb => ?_⟩
  obtain ⟨i, hi, hb⟩ := List.mem_flatMap.mp hb
  obtain ⟨h, hh, rfl⟩ := List.mem_map.mp hb
  exact decide_eq_true (S.le i (List.mem_range.mp hi) h hh)
/-- meetings that have too few hours -/
structure TooFew (rows : Rows) (as ks : List Int) : Prop where
  nd : as.Nodup
  lt : ∀ i ∈ as, 0 ≤ i ∧ i < rows.length
  few : ks.length < as.length
  all_ : ∀ i ∈ as, ∀ h ∈ canAt rows i.toNat, h ∈ ks
  in_ : ∀ h ∈ ks, 0 ≤ h ∧ h ≤ 11
  l12 : ks.length ≤ 12
theorem TooFew.tight {ms : List Mt} {olds : List (Option Int)} {ws : List Wd} {as ks : List Int} (lo : olds.length = ms.length) (S : TooFew (jrows ms olds ws) as ks) : tightB (cansL ms ws) as ks = true := by
  have lc : (cansL ms ws).length = ms.length := by unfold cansL; rw [List.length_map]
  have lr := jrows_len (ws := ws) lo
  have dl := dis_le ks
  have fw := S.few
  unfold tightB
  rw [lc, decide_eq_true S.nd, decide_eq_true (by omega : dis ks < as.length), Bool.true_and, Bool.and_true, Bool.and_eq_true]
  refine ⟨List.all_eq_true.mpr fun x hx => decide_eq_true (by have := S.lt x hx; rw [lr] at this; exact this), List.all_eq_true.mpr fun x hx => List.all_eq_true.mpr fun h hh => decide_eq_true (S.all_ x hx h ?_)⟩
  rw [(jrows_can lo x.toNat).1]
  exact hh
section
variable {P : Program} {w : World} {K : PySem.W.Frag} {mg : Str → Option Value} {base : Heap} {c aA cc cm cSe cTi cMo : Addr}
abbrev st_check_meetings : Stmt := top 28
abbrev nm_check_meetings : List Str := ["meetings", "meeting"]
theorem sc_check_meetings : FnScope nm_check_meetings ["meetings"] (defScope st_check_meetings) := C8.fnScope_by (by decide +kernel)
def sp_check_meetings (K : PySem.W.Frag) (cm : Addr) : Sp := fun vs H Q _ => ∃ (a : Addr) (ms : List Mt), vs = [.ref a] ∧ MsAt K H a ms ∧ (∀ m ∈ ms, m.ok) ∧ ms.length ≤ 6 ∧ TabG H cm ∧ ∀ H', Kx H H' → Q .non H'
theorem ok_check_meetings (D : DefT K mg "check_meetings" st_check_meetings c) (T : Tx K mg aA) (f_check_meeting : C8.Cal P w K mg base 5 "check_meeting" (sp_check_meeting K cm) []) : C8.Cal P w K mg base 6 "check_meetings" (sp_check_meetings K cm) [] := by
  refine cal_of D sc_check_meetings (fun _ _ _ _ _ _ us hl => match us, hl with | [_], _ => rfl) (fun vs H Q E h => ?_) (fun f A outer s H vs Q E hr h => ?_)
  · obtain ⟨a, ms, rfl, _⟩ := h
    rfl
  · obtain ⟨a, ms, rfl, hms, mok, l6, tm, q⟩ := h
    have nd := sc_check_meetings.nd
    refine ⟨_, (pss_cons (ps_if (PW.pt (pw_or (pt_not (pt_val (pe_callB call_isi (by rfl) T.z_isinstance (by decide +kernel) (pa_cons (pv 0) (pa_cons (pe_bltn (v := .ty "list") (by rfl) T.z_list (by decide +kernel) rfl) pa_nil))))) (pw_or1 (pt_cmpR op_gt (pe_callB call_len_seq (by rfl) T.z_len PySem.boot_len (pa_cons (pv 0) pa_nil)) (C8.pe_gc (by rfl) T.c_MOST_MEETINGS) (nomark _))))) (pss_one ps_never) pss_nil)
      (pss_one (ps_for PassesOwn.never rfl (pi_list (pv 0)) (pg_name (i := 1) nd rfl (Or.inl rfl)) (pss_one (ps_expr (C8.pe_c f_check_meeting hr (by decide) (by rfl) (pa_cons (pv 1) pa_nil))))))), ?_⟩
    obtain ⟨as, hma, hmp⟩ := id hms
    have len := paired_len hmp
    refine ⟨_, rfl, .ref a, .ty "list", .type "list", .type "list", true, rfl, .ty _, tyx_lst hma, kit_ty (by decide +kernel), true, rfl, iteF ?_⟩
    refine ⟨_, rfl, a, _, rfl, .inl hma, _, _, rfl, rfl, ?_⟩
    rw [List.length_map, len]
    refine ⟨_, rfl, ?_⟩
    rw [decide_eq_false (by omega)]
    refine iteF ?_
    refine ⟨_, rfl, a, rfl, ⟨_, hma⟩, for_list (K := K) (a := a) (xs := as.map V.ref) (fun j σ H2 => ∃ v1, σ = [some (.ref a), v1] ∧ Kx H H2) ⟨none, rfl, Kx.refl H⟩ (fun j σ H2 _ ⟨_, _, h⟩ => h.l hma) ?_ ?_⟩
    · rintro j y σ H2 hj ⟨v1, rfl, k2⟩
      obtain ⟨am, ham, rfl⟩ : ∃ t, as[j]? = some t ∧ V.ref t = y := by
        rw [List.getElem?_map] at hj
        exact Option.map_eq_some_iff.mp hj
      obtain ⟨m, hm, hmat⟩ := paired_at hmp ham
      exact ⟨_, rfl, am, m, rfl, hmat.k k2, mok m (List.mem_of_getElem? hm), k2.g _ tm, fun H3 k3 => ⟨_, rfl, k2.trans k3⟩⟩
    · rintro σ H2 ⟨v1, rfl, k2⟩
      exact q H2 k2
abbrev st_check_olds : Stmt := top 29
abbrev nm_check_olds : List Str := ["olds", "many", "old"]
theorem sc_check_olds : FnScope nm_check_olds ["olds", "many"] (defScope st_check_olds) := C8.fnScope_by (by decide +kernel)
def sp_check_olds (K : PySem.W.Frag) : Sp := fun vs H Q _ => ∃ (a : Addr) (olds : List (Option Int)), vs = [.ref a, .int (olds.length : Nat)] ∧ SqL K H a (olds.map oldV) ∧ (∀ x ∈ olds, ∀ h, x = some h → 0 ≤ h ∧ h ≤ 11) ∧ olds.length ≤ 1000 ∧ Q .non H
theorem ok_check_olds (D : DefT K mg "check_olds" st_check_olds c) (T : Tx K mg aA) (f_is_hour : C8.Cal P w K mg base 3 "is_hour" sp_is_hour []) : C8.Cal P w K mg base 4 "check_olds" (sp_check_olds K) [] := by
  refine cal_of D sc_check_olds (fun _ _ _ _ _ _ us hl => match us, hl with | [_, _], _ => rfl) (fun vs H Q E h => ?_) (fun f A outer s H vs Q E hr h => ?_)
  · obtain ⟨a, olds, rfl, _⟩ := h
    rfl
  · obtain ⟨a, olds, rfl, ha, ho, l1000, q⟩ := h
    have nd := sc_check_olds.nd
    refine ⟨_, (pss_cons (ps_if (PW.pt (pw_or (pt_not (pt_val (pe_callB call_isi (by rfl) T.z_isinstance (by decide +kernel) (pa_cons (pv 0) (pa_cons (pe_bltn (v := .ty "list") (by rfl) T.z_list (by decide +kernel) rfl) pa_nil))))) (pw_or1 (pt_cmpR op_ne (pe_callB call_len_seq (by rfl) T.z_len PySem.boot_len (pa_cons (pv 0) pa_nil)) (pv 1) (nomark _))))) (pss_one ps_never) pss_nil)
      (pss_one (ps_for PassesOwn.never rfl (pi_list (pv 0)) (pg_name (i := 2) nd rfl (Or.inl rfl)) (pss_one (ps_if (PW.pt (pw_and (pt_cmp (pc_notN (pv 2))) (pw_and1 (pt_not (pt_val (C8.pe_c f_is_hour hr (by decide) (by rfl) (pa_cons (pv 2) pa_nil))))))) (pss_one ps_never) pss_nil))))), ?_⟩
    refine ⟨_, rfl, .ref a, .ty "list", .type "list", .type "list", true, rfl, .ty _, tyx_lst ha, kit_ty (by decide +kernel), true, rfl, iteF ?_⟩
    refine ⟨_, rfl, a, _, rfl, .inl ha, ?_⟩
    rw [List.length_map]
    refine ⟨_, rfl, rfl, _, rfl, ?_⟩
    rw [decide_eq_true rfl]
    refine iteF ?_
    refine ⟨_, rfl, a, rfl, ⟨_, ha⟩, for_list (K := K) (a := a) (xs := olds.map oldV) (fun j σ H2 => ∃ v2, σ = [some (.ref a), some (.int (olds.length : Nat)), v2] ∧ H2 = H) ⟨none, rfl, rfl⟩ (fun j σ H2 _ ⟨_, _, h⟩ => h ▸ ha) ?_ ?_⟩
    · rintro j y σ H2 hj ⟨v2, rfl, rfl⟩
      obtain ⟨x, hx, rfl⟩ : ∃ t, olds[j]? = some t ∧ oldV t = y := by
        rw [List.getElem?_map] at hj
        exact Option.map_eq_some_iff.mp hj
      cases x with
      | none => exact ⟨_, rfl, _, rfl, iteF (iteF ⟨_, rfl, rfl⟩)⟩
      | some h =>
        refine ⟨_, rfl, _, rfl, iteT ⟨_, rfl, h, rfl, ?_⟩⟩
        rw [decide_eq_true (ho _ (List.mem_of_getElem? hx) h rfl)]
        exact ⟨true, rfl, iteF ⟨_, rfl, rfl⟩⟩
    · rintro σ H2 ⟨v2, rfl, rfl⟩
      exact q
abbrev st_table : Stmt := top 49
abbrev nm_table : List Str := ["words", "meetings", "olds", "known", "seats", "newcomer", "tight"]
theorem sc_table : FnScope nm_table ["words", "meetings", "olds"] (defScope st_table) := C8.fnScope_by (by decide +kernel)
def sp_table (K : PySem.W.Frag) (cm cc cMo cTi : Addr) : Sp := fun vs H Q _ => ∃ (l a o : Addr) (ws : List Wd) (ms : List Mt) (olds : List (Option Int)), vs = [.ref l, .ref a, .ref o] ∧ WsAt K H l ws ∧ ws.length ≤ 80 ∧ (∀ x ∈ ws, x.ok) ∧ Alike ws ∧ MsAt K H a ms ∧ (∀ m ∈ ms, m.ok) ∧ ms.length ≤ 6 ∧ SqL K H o (olds.map oldV) ∧ olds.length = ms.length ∧ (∀ x ∈ olds, ∀ h, x = some h → 0 ≤ h ∧ h ≤ 11) ∧ TabG H cm ∧ TabG H cc ∧
  (∀ (H' : Hp) (x dx r r2 r3 : Addr) (zs ps rs : List Int), Kx H H' → H x = none → H r = none → H r2 = none → H r3 = none → r ≠ r2 ∧ r ≠ r3 ∧ r2 ≠ r3 → H' x = some (.ins cMo dx [("hours", .ref r), ("prices", .ref r2), ("rents", .ref r3)]) → H' r = some (.lst (zs.map V.int)) → H' r2 = some (.lst (ps.map V.int)) → H' r3 = some (.lst (rs.map V.int)) → AllAt (jrows ms olds ws) zs ps rs → Q (.ref x) H') ∧
  (∀ (H' : Hp) (x dx r r2 : Addr) (as ks : List Int), Kx H H' → H x = none → H r = none → H r2 = none → r ≠ r2 → H' x = some (.ins cTi dx [("meetings", .ref r), ("hours", .ref r2)]) → H' r = some (.lst (as.map V.int)) → H' r2 = some (.lst (ks.map V.int)) → TooFew (jrows ms olds ws) as ks → Q (.ref x) H')
theorem ok_table (D : DefT K mg "table" st_table c) (T : Tx K mg aA) (e_Seats : Own K mg "Seats" cSe) (s2 : NoAttr K cSe "hours") (s3 : NoAttr K cSe "prices") (s4 : NoAttr K cSe "rents") (f_checked_words : C8.Cal P w K mg base 6 "checked_words" (sp_checked_words0 K) []) (f_check_meetings : C8.Cal P w K mg base 6 "check_meetings" (sp_check_meetings K cm) []) (f_check_olds : C8.Cal P w K mg base 4 "check_olds" (sp_check_olds K) []) (f_jumps_of : C8.Cal P w K mg base 4 "jumps_of" (sp_jumps_of K cc) [])
    (k_Seats : C8.Mak P w K mg base 1 "Seats" cSe (sp_Seats_init cSe) []) (m_Seats_seat : C8.Met P w K mg base 4 cSe "seat" (sp_seat K cSe cTi) []) (k_Moved : C8.Mak P w K mg base 2 "Moved" cMo (sp_Moved_init K cMo) []) : C8.Cal P w K mg base 7 "table" (sp_table K cm cc cMo cTi) [] := by
  refine cal_of D sc_table (fun _ _ _ _ _ _ us hl => match us, hl with | [_, _, _], _ => rfl) (fun vs H Q E h => ?_) (fun f A outer s H vs Q E hr h => ?_)
  · obtain ⟨l, a, o, ws, ms, olds, rfl, _⟩ := h
    rfl
  · obtain ⟨l, a, o, ws, ms, olds, rfl, hw, h80, wok, al, hms, mok, l6, ho, lo, oin, tm, tc, q1, q2⟩ := h
    have nd := sc_table.nd
    refine ⟨_, (pss_cons (ps_set (i := 3) nd rfl (Or.inl rfl) (C8.pe_c f_checked_words hr (by decide) (by rfl) (pa_cons (pv 0) pa_nil)))
      (pss_cons (ps_expr (C8.pe_c f_check_meetings hr (by decide) (by rfl) (pa_cons (pv 1) pa_nil)))
      (pss_cons (ps_expr (C8.pe_c f_check_olds hr (by decide) (by rfl) (pa_cons (pv 2) (pa_cons (pe_callB call_len_seq (by rfl) T.z_len PySem.boot_len (pa_cons (pv 1) pa_nil)) pa_nil))))
      (pss_cons (ps_set (i := 4) nd rfl (Or.inl rfl) (C8.pe_mk k_Seats hr (by first | decide | exact hkp) (by rfl) (pa_cons (C8.pe_c f_jumps_of hr (by decide) (by rfl) (pa_cons (pv 3) (pa_cons (pv 1) (pa_cons (pv 2) pa_nil)))) pa_nil)))
      (pss_cons (ps_for PassesOwn.never rfl (pi_range1 (by rfl) T.z_range (pa_cons (pe_callB call_len_seq (by rfl) T.z_len PySem.boot_len (pa_cons (pv 1) pa_nil)) pa_nil)) (pg_name (i := 5) nd rfl (Or.inl rfl)) (pss_cons (ps_set (i := 6) nd rfl (Or.inl rfl) (C8.pe_mt m_Seats_seat hr (by first | decide | exact hkp) (pv 4) (pa_cons (pv 5) pa_nil)))
      (pss_one (ps_if (pt_cmp (pc_notN (pv 6))) (pss_one (ps_ret (pv 6))) pss_nil))))
      (pss_one (ps_ret (C8.pe_mk k_Moved hr (by first | decide | exact hkp) (by rfl) (pa_cons (pe_fld (pv 4) rfl) (pa_cons (pe_fld (pv 4) rfl) (pa_cons (pe_fld (pv 4) rfl) pa_nil))))))))))), ?_⟩
    refine ⟨_, rfl, l, ws, rfl, hw, h80, wok, al, fun H1 r1 ts us k1 nr1 hr1 ht1 once => ?_⟩
    have lu : us.length ≤ 200 := by
      have := once_len once
      omega
    have alu : Alike us := fun a ha b hb => al a ((once.mem a).mp ha) b ((once.mem b).mp hb)
    have ea : ansW us = ansW ws := funext fun p => funext fun x => isAns_uniq al (isAns_once once (ansW_is us p x)) (ansW_is ws p x)
    refine ⟨_, rfl, a, ms, rfl, hms.k k1, mok, l6, k1.g _ tm, fun H2 k2 => ?_⟩
    have k12 := k1.trans k2
    obtain ⟨as, hma, hmp⟩ := hms.k k12
    have len := paired_len hmp
    refine ⟨_, rfl, _, rfl, a, _, rfl, .inl hma, ?_⟩
    rw [List.length_map, len]
    refine ⟨o, olds, by rw [lo] <;> rfl, k12.l ho, oin, by omega, ?_⟩
    refine ⟨_, rfl, _, rfl, _, rfl, r1, a, o, ts, us, ws, ms, olds, rfl, sq_of (k2.lst hr1), ht1.k k2, lu, alu, ea, hms.k k12, mok, by omega, k12.l ho, lo, k12.g _ tc, fun H3 J ds k3 nJ hJ hds ndd fds => ?_⟩
    have k13 := k12.trans k3
    have lrw := jrows_len (ws := ws) lo
    generalize jrows ms olds ws = rows at q1 q2 hds lrw
    have rok := hds.ok
    refine fun x dx nx ndx nxx => ?_
    refine ⟨H3, x, dx, J, ds, rows, rfl, rfl, nx, ndx, nxx, hJ, hds, ndd, by omega, fun H4 sa k4 es eds f1 f2 f3 f4 S4 => ⟨rfl, ?_⟩⟩
    subst es
    have k04 := k13.trans k4
    have free : ∀ b ∈ [sa.Hh, sa.Pp, sa.Rr, sa.Ho], H b = none := fun b hb => by
      simp only [List.mem_cons, List.not_mem_nil, or_false] at hb
      rcases hb with rfl | rfl | rfl | rfl
      · exact k13.f _ f1
      · exact k13.f _ f2
      · exact k13.f _ f3
      · exact k13.f _ f4
    have hma4 := (k3.trans k4).l hma
    refine ⟨_, rfl, a, _, rfl, .inl hma4, ?_⟩
    rw [List.length_map, len, ← lrw]
    have l6' : rows.length ≤ 6 := by omega
    have hbig : (rows.length : Int) < 2 ^ 62 := by
      have : (2 : Int) ^ 62 = 4611686018427387904 := by decide
      omega
    have hsmall : -2 ^ 62 ≤ (rows.length : Int) := by
      have : (2 : Int) ^ 62 = 4611686018427387904 := by decide
      omega
    refine ⟨(rows.length : Nat), rfl, hsmall, hbig, for_range (lo := 0) (n := rows.length) (fun i σ Hn => ∃ (v5 v6 : Option V) (hs : List (Option Int)) (ps rs : List Int) (kvs : List (Key × V)) (hf : Int → Option Nat), σ = [some (.ref l), some (.ref a), some (.ref o), some (.ref r1), some (.ref sa.s), v5, v6] ∧ Kx H Hn ∧ SeatsAt cSe Hn sa rows hs ps rs kvs hf ∧ Seated rows i hs ps rs hf ∧ kvs.length ≤ 20 * i)
      ⟨none, none, _, _, _, _, _, rfl, k04, S4, Seated.zero rows, Nat.zero_le _⟩ ?_ ?_⟩
    · rintro i σ Hn hi ⟨v5, v6, hs, ps, rs, kvs, hf, rfl, kn, Sn, Sd, lk⟩
      refine ⟨_, rfl, sa.s, sa.dx, sa.flds, rfl, Sn.ob, rfl, _, rfl, sa, rows, i, hs, ps, rs, kvs, hf, by rw [Int.zero_add] <;> rfl, Sn, Sd, hi, by omega, lk, fun H' hs' ps' rs' kvs' hf' ke S' Sd' lk' => ?_, fun H' x2 dx2 r r2 as ks ke hx2 nx2 nr nr2 nrr hr hr2 a1 a2 a3 a4 a5 a6 => ?_⟩
      · refine ⟨_, rfl, _, rfl, iteF ?_⟩
        exact ⟨_, _, hs', ps', rs', kvs', hf', rfl, Ke.kx kn ke free, S', Sd', lk'⟩
      · refine ⟨_, rfl, _, rfl, iteT ?_⟩
        have l12 := nodup_sub_len (us := ks) (ws := (List.range 12).map fun (i : Nat) => (i : Int)) a4 fun x hx => by
          have := a6 x hx
          exact List.mem_map.mpr ⟨x.toNat, List.mem_range.mpr (by omega), by show ((x.toNat : Nat) : Int) = x; omega⟩
        exact ⟨_, rfl, q2 H' x2 dx2 r r2 as ks (Ke.kx kn ke free) (kn.f _ nx2) (kn.f _ nr) (kn.f _ nr2) nrr hx2 hr hr2 ⟨a1, a2, a3, a5, a6, by simpa using l12⟩⟩
    · rintro σ Hn ⟨v5, v6, hs, ps, rs, kvs, hf, rfl, kn, Sn, Sd, lk⟩
      obtain ⟨zs, rfl, aa⟩ := Sd.all rok
      have hh := Sn.hh
      rw [List.map_map, show (oldV ∘ some) = V.int from rfl] at hh
      refine ⟨_, rfl, sa.s, cSe, sa.dx, _, _, rfl, Sn.ob, e_Seats.cl, s2, fld_hours sa, _, rfl, sa.s, cSe, sa.dx, _, _, rfl, Sn.ob, e_Seats.cl, s3, fld_prices sa, _, rfl, sa.s, cSe, sa.dx, _, _, rfl, Sn.ob, e_Seats.cl, s4, fld_rents sa, fun y dy ny ndy nyy => ?_⟩
      have m1 := aa.l1
      have m2 := aa.l2
      have m3 := aa.l3
      refine ⟨Hn, y, dy, sa.Hh, sa.Pp, sa.Rr, zs.map V.int, [], ps, rs, rfl, rfl, ny, ndy, nyy, sq_of hh, ⟨zs, rfl⟩, sq_of Sn.hp, sq_of Sn.hr, by rw [List.length_map]; omega, by omega, by omega, fun H' r r2 r3 kk hx nr nr2 nr3 nrs hr hr2 hr3 => ⟨rfl, ?_⟩⟩
      exact q1 H' y dy r r2 r3 zs ps rs (kn.trans kk) (kn.f _ ny) (kn.f _ nr) (kn.f _ nr2) (kn.f _ nr3) nrs hx hr hr2 hr3 aa
end
end CH
end

section
set_option Elab.async false
set_option linter.all false
set_option maxRecDepth 100000
set_option maxHeartbeats 4000000
namespace CH
open PySem PySem.Spec PyProof.Rows L2
open GxR (TabB TabG Tabbed)
theorem TooFew.no_sit {rows : Rows} {as ks zs : List Int} (F : TooFew rows as ks) (S : Sit rows zs) : False := by
  have fw := F.few
  have gi : ∀ i : Nat, i < rows.length → zs[i]? = some (zs.getD i 0) := fun i hi => by
    rw [List.getD_eq_getElem?_getD, List.getElem?_eq_getElem (by rw [S.l1]; exact hi)] <;> rfl
  have l := nodup_sub_len (us := as.map fun i => zs.getD i.toNat 0) (ws := ks) ?_ ?_
  · rw [List.length_map] at l
    omega
  · refine List.pairwise_map.mpr (List.Pairwise.imp_of_mem (fun {a b} ha hb ne e => ne ?_) F.nd)
    obtain ⟨a0, a1⟩ := F.lt a ha
    obtain ⟨b0, b1⟩ := F.lt b hb
    have ea := gi a.toNat (by omega)
    have eb := gi b.toNat (by omega)
    obtain ⟨la, ea⟩ := List.getElem?_eq_some_iff.mp ea
    obtain ⟨lb, eb⟩ := List.getElem?_eq_some_iff.mp eb
    have := (List.getElem_inj (h₀ := la) (h₁ := lb) S.nd).mp (by rw [ea, eb]; exact e)
    omega
  · intro x hx
    obtain ⟨i, hi, rfl⟩ := List.mem_map.mp hx
    obtain ⟨a0, a1⟩ := F.lt i hi
    exact F.all_ i hi _ (S.in_ i.toNat (by omega))
theorem jrows_ok {ms : List Mt} {olds : List (Option Int)} {ws : List Wd} (lo : olds.length = ms.length) : RowsOk (jrows ms olds ws) := by
  have g : ∀ i, canAt (jrows ms olds ws) i = [] ∨ ∃ m, canAt (jrows ms olds ws) i = hoursL m ["yes"] (ansF ws) := fun i => by
    rw [(jrows_can lo i).1, List.getD_eq_getElem?_getD]
    unfold cansL
    rw [List.getElem?_map]
    cases ms[i]? with
    | none => exact .inl rfl
    | some m => exact .inr ⟨m, rfl⟩
  refine ⟨fun i => ?_, fun i h hh => ?_⟩
  · rcases g i with e | ⟨m, e⟩ <;> rw [e]
    · exact List.nodup_nil
    · exact List.Pairwise.map _ (fun a b h z => h (Int.ofNat.inj z)) (List.nodup_range.filter _)
  · rcases g i with e | ⟨m, e⟩ <;> rw [e] at hh
    · exact absurd hh (by simp)
    · exact hoursL_mem hh
theorem Sit.olds {ms : List Mt} {o1 o2 : List (Option Int)} {ws : List Wd} {zs : List Int} (l1 : o1.length = ms.length) (l2 : o2.length = ms.length) (S : Sit (jrows ms o1 ws) zs) : Sit (jrows ms o2 ws) zs := by
  have e1 := jrows_len (ws := ws) l1
  have e2 := jrows_len (ws := ws) l2
  refine ⟨by rw [S.l1, e1, e2], S.nd, fun i hi => ?_⟩
  rw [(jrows_can l2 i).1, ← (jrows_can l1 i).1]
  exact S.in_ i (by rw [e1, ← e2]; exact hi)
theorem costs_le {ms : List Mt} {o1 o2 : List (Option Int)} {ws : List Wd} {zs : List Int} (l1 : o1.length = ms.length) (l2 : o2.length = ms.length) (h : ∀ i, i < ms.length → ∀ x, jumpZ (o1.getD i none) x ≤ jumpZ (o2.getD i none) x) : costs (jrows ms o1 ws) zs ≤ costs (jrows ms o2 ws) zs := by
  unfold costs
  rw [jrows_len (ws := ws) l1, jrows_len (ws := ws) l2]
  refine sum_le _ fun i hi => ?_
  have hi := List.mem_range.mp hi
  rw [(jrows_can l1 i).2 hi, (jrows_can l2 i).2 hi]
  exact h i hi _
/-- a table over its own hours moves no more -/
theorem AllAt.again {ms : List Mt} {olds : List (Option Int)} {ws : List Wd} {zs ps rs zs2 ps2 rs2 : List Int} (lo : olds.length = ms.length) (A : AllAt (jrows ms olds ws) zs ps rs) (B : AllAt (jrows ms (zs.map some) ws) zs2 ps2 rs2) : zs2 = zs ∧ ps2.sum + rs2.sum = 0 := by
  have l1 := A.l1
  rw [jrows_len lo] at l1
  have l2 : (zs.map some).length = ms.length := by rw [List.length_map]; exact l1
  have lb := B.l1
  rw [jrows_len l2] at lb
  have S : Sit (jrows ms (zs.map some) ws) zs := A.sit.olds lo l2
  have z : costs (jrows ms (zs.map some) ws) zs = 0 := by
    unfold costs
    rw [jrows_len l2]
    have : ∀ l : List Nat, (∀ i ∈ l, i < ms.length) → (l.map fun i => cost (jrows ms (zs.map some) ws) i (zs.getD i 0)).sum = 0 := fun l => by
      induction l with
      | nil => intro _; rfl
      | cons i l ih =>
        intro h
        rw [List.map_cons, List.sum_cons, ih fun x hx => h x (List.mem_cons_of_mem _ hx), (jrows_can l2 i).2 (h i List.mem_cons_self), List.getD_eq_getElem?_getD, List.getD_eq_getElem?_getD, List.getElem?_map]
        have hi := h i List.mem_cons_self
        rw [List.getElem?_eq_getElem (by omega)]
        show jumpZ (some zs[i]) zs[i] + 0 = 0
        unfold jumpZ
        dsimp only
        split <;> omega
    exact this _ fun i hi => List.mem_range.mp hi
  have a1 := B.least (jrows_ok l2) S
  rw [z] at a1
  have a2 := B.cost_
  have a3 := sum_nn0 (f := fun i => cost (jrows ms (zs.map some) ws) i (zs2.getD i 0)) (List.range (jrows ms (zs.map some) ws).length) (fun i _ => cost_nn _ _ _) (by
    have : costs (jrows ms (zs.map some) ws) zs2 ≤ 0 := by omega
    exact this)
  rw [jrows_len l2] at a3
  refine ⟨List.ext_getElem (by omega) fun i h1 h2 => ?_, ?_⟩
  · have e := a3 i (List.mem_range.mpr (by omega))
    rw [(jrows_can l2 i).2 (by omega), List.getD_eq_getElem?_getD, List.getD_eq_getElem?_getD, List.getElem?_map, List.getElem?_eq_getElem h1, List.getElem?_eq_getElem h2] at e
    have e : jumpZ (some zs[i]) zs2[i] = 0 := e
    unfold jumpZ at e
    dsimp only at e
    split at e <;> omega
  · have : 0 ≤ costs (jrows ms (zs.map some) ws) zs2 := by
      unfold costs
      have : ∀ l : List Nat, 0 ≤ (l.map fun i => cost (jrows ms (zs.map some) ws) i (zs2.getD i 0)).sum := fun l => by
        induction l with
        | nil => exact Int.le_refl _
        | cons i l ih =>
          rw [List.map_cons, List.sum_cons]
          have := cost_nn (jrows ms (zs.map some) ws) i (zs2.getD i 0)
          omega
      exact this _
    omega
end CH
end

section
set_option Elab.async false
set_option linter.all false
set_option maxRecDepth 100000
set_option maxHeartbeats 4000000
namespace CH
open PySem PySem.Spec PyProof.Rows L2
open GxR (TabB TabG Tabbed)
theorem rgV_ints (a b : Int) : ∃ zs : List Int, rgV a b = zs.map V.int ∧ zs.length = (b - a).toNat := by
  refine ⟨(List.range (b - a).toNat).map fun i : Nat => a + (i : Int), ?_, by rw [List.length_map, List.length_range]⟩
  rw [List.map_map]
  rfl
theorem seq_split {a rest : TS} {D : Ends} {σ : L2.St} {H : Hp} (Iv : L2.St → Hp → Prop) (h1 : ∀ σ' H', Iv σ' H' → rest D σ' H') (h2 : ∀ R : L2.St → Hp → Prop, (∀ σ' H', Iv σ' H' → R σ' H') → a { D with nx := R } σ H) : tSeq a rest D σ H := h2 (rest D) h1
theorem seq_cut {a rest : TS} {D : Ends} {σ : L2.St} {H : Hp} (Iv : L2.St → Hp → Prop) (h2 : ∀ D' : Ends, (∀ σ' H', Iv σ' H' → D'.nx σ' H') → a D' σ H) (h1 : ∀ σ' H', Iv σ' H' → rest D σ' H') : tSeq a rest D σ H := h2 { D with nx := rest D } h1
theorem rg_ok {a b : Int} (h1 : -100 ≤ a) (h2 : a ≤ 100) (h3 : -100 ≤ b) (h4 : b ≤ 100) : RgOk a b := by
  have e : (2 : Int) ^ 62 = 4611686018427387904 := by decide
  have e2 : (2 : Nat) ^ 24 = 16777216 := by decide
  unfold RgOk
  rw [e, e2]
  omega
theorem mts_at {K : PySem.W.Frag} {H : Hp} : ∀ {ms : List Mt} {vs : List V}, Lt.ats H (ms.map Mt.lt) vs → ∃ as : List Addr, vs = as.map V.ref ∧ Paired (fun a m => MAt K H a m) as ms
  | [], _, h => ⟨[], h, .nil⟩
  | m :: ms, vs, h => by
    obtain ⟨v, us, rfl, a, b⟩ := h
    obtain ⟨t, rfl, ht⟩ := mt_at (K := K) a
    obtain ⟨ts, rfl, hts⟩ := mts_at (K := K) b
    exact ⟨t :: ts, rfl, .cons ht hts⟩
theorem meets_lt {K : PySem.W.Frag} {H : Hp} {ms : List Mt} {v : V} (h : Lt.at_ H (.lst (ms.map Mt.lt)) v) : ∃ l : Addr, v = .ref l ∧ MsAt K H l ms := by
  obtain ⟨a, vs, e, b, c⟩ := h
  obtain ⟨ts, rfl, ht⟩ := mts_at (K := K) c
  exact ⟨a, e, ts, sq_of b, ht⟩
theorem no_words {K : PySem.W.Frag} {H : Hp} {l : Addr} (h : H l = some (.lst [])) : Words K H l [] := ⟨⟨[], sq_of h, .nil⟩, Nat.zero_le _, (fun x hx => absurd hx (by simp)), fun x hx => absurd hx (by simp)⟩
section
variable {P : Program} {w : World} {K : PySem.W.Frag} {mg : Str → Option Value} {base : Heap} {c aA cc cm cMo cTi cAn : Addr}
/-- what a table answers -/
def ShownM (cMo : Addr) (H0 H : Hp) (x : Addr) (rows : Rows) : Prop := ∃ (dx r r2 r3 : Addr) (zs ps rs : List Int), (H0 r = none ∧ H0 r2 = none ∧ H0 r3 = none) ∧ (r ≠ r2 ∧ r ≠ r3 ∧ r2 ≠ r3) ∧ H x = some (.ins cMo dx [("hours", .ref r), ("prices", .ref r2), ("rents", .ref r3)]) ∧ H r = some (.lst (zs.map V.int)) ∧ H r2 = some (.lst (ps.map V.int)) ∧ H r3 = some (.lst (rs.map V.int)) ∧ AllAt rows zs ps rs
def ShownT (cTi : Addr) (H0 H : Hp) (x : Addr) (rows : Rows) : Prop := ∃ (dx r r2 : Addr) (as ks : List Int), (H0 r = none ∧ H0 r2 = none) ∧ r ≠ r2 ∧ H x = some (.ins cTi dx [("meetings", .ref r), ("hours", .ref r2)]) ∧ H r = some (.lst (as.map V.int)) ∧ H r2 = some (.lst (ks.map V.int)) ∧ TooFew rows as ks
def sp_table2 (K : PySem.W.Frag) (cm cc cMo cTi : Addr) : Sp := fun vs H Q _ => ∃ (l a o : Addr) (ws : List Wd) (ms : List Mt) (olds : List (Option Int)), vs = [.ref l, .ref a, .ref o] ∧ WsAt K H l ws ∧ ws.length ≤ 80 ∧ (∀ x ∈ ws, x.ok) ∧ Alike ws ∧ MsAt K H a ms ∧ (∀ m ∈ ms, m.ok) ∧ ms.length ≤ 6 ∧ SqL K H o (olds.map oldV) ∧ olds.length = ms.length ∧ (∀ x ∈ olds, ∀ h, x = some h → 0 ≤ h ∧ h ≤ 11) ∧ TabG H cm ∧ TabG H cc ∧
  ∀ (H' : Hp) (x : Addr), Kx H H' → H x = none → ShownM cMo H H' x (jrows ms olds ws) ∨ ShownT cTi H H' x (jrows ms olds ws) → Q (.ref x) H'
theorem table2 (f : C8.Cal P w K mg base 7 "table" (sp_table K cm cc cMo cTi) []) : C8.Cal P w K mg base 7 "table" (sp_table2 K cm cc cMo cTi) [] :=
  Cal.weak f fun vs H Q E ⟨l, a, o, ws, ms, olds, e, h1, h2, h3, h4, h5, h6, h7, h8, h9, h10, h11, h12, q⟩ => ⟨l, a, o, ws, ms, olds, e, h1, h2, h3, h4, h5, h6, h7, h8, h9, h10, h11, h12,
    fun H' x dx r r2 r3 zs ps rs k nx nr nr2 nr3 nn hx hr hr2 hr3 al => q H' x k nx (.inl ⟨dx, r, r2, r3, zs, ps, rs, ⟨nr, nr2, nr3⟩, nn, hx, hr, hr2, hr3, al⟩),
    fun H' x dx r r2 as ks k nx nr nr2 nn hx hr hr2 tf => q H' x k nx (.inr ⟨dx, r, r2, as, ks, ⟨nr, nr2⟩, nn, hx, hr, hr2, tf⟩)⟩
end
end CH
end

section
set_option Elab.async false
set_option linter.all false
set_option maxRecDepth 100000
set_option maxHeartbeats 4000000
namespace CH
open PySem PySem.Spec PyProof.Rows L2
open GxR (TabB TabG Tabbed)
section
variable {P : Program} {w : World} {K : PySem.W.Frag} {mg : Str → Option Value} {base : Heap} {c aA cc cm cMo cTi : Addr}
abbrev st_law_table_right : Stmt := top 63
abbrev nm_law_table_right : List Str := ["_law_words_here", "_law_meetings_here", "_law_olds", "_law_whole", "_law_told", "_law_again", "_law_spread", "_law_turn", "_law_old", "_law_less"]
theorem sc_law_table_right : FnScope nm_law_table_right ["_law_words_here", "_law_meetings_here", "_law_olds", "_law_whole"] (defScope st_law_table_right) := C8.fnScope_by (by decide +kernel)
def sp_law_table_right (K : PySem.W.Frag) (cm cc : Addr) : Sp := fun vs H Q _ => ∃ (l a o : Addr) (wh : Int) (ws : List Wd) (ms : List Mt) (olds : List (Option Int)), vs = [.ref l, .ref a, .ref o, .int wh] ∧ Words K H l ws ∧ MsAt K H a ms ∧ (∀ m ∈ ms, m.ok) ∧ ms.length ≤ 6 ∧ SqL K H o (olds.map oldV) ∧ olds.length = ms.length ∧ (∀ x ∈ olds, ∀ h, x = some h → 0 ≤ h ∧ h ≤ 11) ∧ TabG H cm ∧ TabG H cc ∧ ∀ H' : Hp, Kx H H' → Q (.bl true) H'
theorem ok_law_table_right (D : DefT K mg "_law_table_right" st_law_table_right c) (T : Tx K mg aA) (e_Moved : Own K mg "Moved" cMo) (e_Tight : Own K mg "Tight" cTi) (n1 : NoAttr K cMo "hours") (n2 : NoAttr K cMo "prices") (n3 : NoAttr K cMo "rents") (i1 : PySem.W.kitOne K (.ref cMo) (.ref cMo) = some true) (i2 : PySem.W.kitOne K (.ref cTi) (.ref cMo) = some false)
    (f_table : C8.Cal P w K mg base 7 "table" (sp_table2 K cm cc cMo cTi) []) : C8.Cal P w K mg base 8 "_law_table_right" (sp_law_table_right K cm cc) [] := by
  refine cal_of D sc_law_table_right (fun _ _ _ _ _ _ us hl => match us, hl with | [_, _, _, _], _ => rfl) (fun vs H Q E h => ?_) (fun fa A outer s H vs Q E hr h => ?_)
  · obtain ⟨l, a, o, wh, ws, ms, olds, rfl, _⟩ := h
    rfl
  · obtain ⟨l, a, o, wh, ws, ms, olds, rfl, W, M, mok, l6, ho, lo, oin, tm, tc, q⟩ := h
    have nd := sc_law_table_right.nd
    have hu := hu_of hr
    refine ⟨_, (pss_cons (ps_set (i := 4) nd rfl (Or.inl rfl) (C8.pe_c f_table hr (by decide) (by rfl) (pa_cons (pv 0) (pa_cons (pv 1) (pa_cons (pv 2) pa_nil)))))
      (pss_cons (ps_if (pt_not (pt_val (pe_callB call_isi (by rfl) T.z_isinstance (by decide +kernel) (pa_cons (pv 4) (pa_cons (C8.pe_gc (by rfl) e_Moved.cv) pa_nil))))) (pss_one (ps_ret pe_bl)) pss_nil)
      (pss_cons (ps_set (i := 5) nd rfl (Or.inl rfl) (C8.pe_c f_table hr (by decide) (by rfl) (pa_cons (pv 0) (pa_cons (pv 1) (pa_cons (pe_fld (pv 4) rfl) pa_nil)))))
      (pss_cons (ps_if (PW.pt (pw_or (pt_cmpR (op_neD hr.units) (pe_fld (pv 5) rfl) (pe_fld (pv 4) rfl) (nomark _)) (pw_or1 (pt_cmpR op_ne (pe_op op_add (pe_callB (cr_sum rfl) (by rfl) T.z_sum (by decide +kernel) (pa_cons (pe_fld (pv 5) rfl) pa_nil)) (pe_callB (cr_sum rfl) (by rfl) T.z_sum (by decide +kernel) (pa_cons (pe_fld (pv 5) rfl) pa_nil))) pe_int (nomark _))))) (pss_one (ps_ret pe_bl)) pss_nil)
      (pss_cons (ps_setLc (i := 6) (own := [("_law_turn", 7), ("_law_old", 8)]) (g := (gTup K 2 (gCons (gName 7) (gCons (gName 8) gNil)))) (tt := tYes) (by rfl) nd rfl rfl (sw_true rfl rfl rfl (by decide +kernel)) (pi_enum (by rfl) T.z_enumerate (pa_cons (pv 2) pa_nil)) (blkOk_by (own := [("_law_turn", 7), ("_law_old", 8)]) (N := nm_law_table_right) (sc := defScope st_law_table_right) (by decide +kernel)) (fun _ _ _ _ _ => (show PG _ _ (gTup K 2 (gCons (gName 7) (gCons (gName 8) gNil))) from pg_tup (by rfl) (pgs_cons (pg_name (i := 7) nd rfl (Or.inl rfl)) (pgs_cons (pg_name (i := 8) nd rfl (Or.inl rfl)) pgs_nil)))) (fun _ _ _ _ _ => pts_nil) (fun _ _ _ _ _ => (pe_ifExp (pt_cmpR op_eq (pe_op op_mod (pv 7) pe_int) (pe_op op_mod (pv 3) pe_int) (nomark _)) (pv 8) pe_non)))
      (pss_cons (ps_set (i := 9) nd rfl (Or.inl rfl) (C8.pe_c f_table hr (by decide) (by rfl) (pa_cons (pv 0) (pa_cons (pv 1) (pa_cons (pv 6) pa_nil)))))
      (pss_one (ps_ret (pe_cmpR op_le (pe_op op_add (pe_callB (cr_sum rfl) (by rfl) T.z_sum (by decide +kernel) (pa_cons (pe_fld (pv 9) rfl) pa_nil)) (pe_callB (cr_sum rfl) (by rfl) T.z_sum (by decide +kernel) (pa_cons (pe_fld (pv 9) rfl) pa_nil))) (pe_op op_add (pe_callB (cr_sum rfl) (by rfl) T.z_sum (by decide +kernel) (pa_cons (pe_fld (pv 4) rfl) pa_nil)) (pe_callB (cr_sum rfl) (by rfl) T.z_sum (by decide +kernel) (pa_cons (pe_fld (pv 4) rfl) pa_nil))) (nomark _)))))))))), ?_⟩
    refine ⟨_, rfl, _, rfl, _, rfl, l, a, o, ws, ms, olds, rfl, W.at_, W.h80, W.ok, W.al, M, mok, l6, ho, lo, oin, tm, tc, fun H1 x k1 nx sh => ?_⟩
    rcases sh with ⟨dx, r1, r2, r3, zs, ps, rs, _, _, hx, hz1, hz2, hz3, aa⟩ | ⟨dx, r1, r2, as1, ks, _, _, hx, hz1, hz2, tf⟩
    rotate_left
    · refine ⟨_, rfl, .ref x, .ref cMo, .ref cTi, .ref cMo, false, rfl, .own _, e_Tight.ty hx, i2, false, rfl, iteT ?_⟩
      exact q H1 k1
    refine ⟨_, rfl, .ref x, .ref cMo, .ref cMo, .ref cMo, true, rfl, .own _, e_Moved.ty hx, i1, true, rfl, iteF ?_⟩
    have lr := jrows_len (ws := ws) lo
    have lz : (zs.map some).length = ms.length := by rw [List.length_map, aa.l1, lr]
    have eo : (zs.map some).map oldV = zs.map V.int := by rw [List.map_map] <;> rfl
    refine ⟨_, rfl, _, rfl, _, rfl, x, cMo, dx, _, _, rfl, hx, e_Moved.cl, n1, rfl, l, a, r1, ws, ms, zs.map some, rfl, (W.k k1).at_, W.h80, W.ok, W.al, M.k k1, mok, l6, by rw [eo]; exact sq_of hz1, lz, ?_, k1.g _ tm, k1.g _ tc, fun H2 y k2 ny sh2 => ?_⟩
    · intro z hz h e
      obtain ⟨z0, hz0, rfl⟩ := List.mem_map.mp hz
      cases e
      obtain ⟨i, hi⟩ := List.mem_iff_getElem?.mp hz0
      have hl := (List.getElem?_eq_some_iff.mp hi).1
      have g := aa.in_ i (by rw [← aa.l1]; exact hl)
      rw [List.getD_eq_getElem?_getD, hi] at g
      exact (jrows_ok lo).in_ i h g
    rcases sh2 with ⟨dy, s1, s2, s3, zs2, ps2, rs2, _, _, hy, hs1, hs2, hs3, bb⟩ | ⟨dy, s1, s2, as1, ks, _, _, hy, hs1, hs2, tf⟩
    rotate_left
    · exact absurd (tf.no_sit (aa.sit.olds lo lz)) id
    obtain ⟨ez, es⟩ := aa.again lo bb
    subst ez
    have hx2 := k2.o _ _ hx fun ps z => nomatch z
    refine ⟨_, rfl, y, cMo, dy, _, _, rfl, hy, e_Moved.cl, n1, rfl, _, rfl, x, cMo, dx, _, _, rfl, hx2, e_Moved.cl, n1, rfl, isD _, isD _, isD_dp (sq_of hs1), isD_dp (sq_of (k2.lst hz1)), isD_sh _, isD_sh _, _, rfl, ?_⟩
    rw [isD_eqv, decide_eq_true rfl]
    refine iteF ?_
    refine ⟨_, rfl, y, cMo, dy, _, _, rfl, hy, e_Moved.cl, n2, rfl, s2, ps2, rfl, sq_of hs2, _, rfl, y, cMo, dy, _, _, rfl, hy, e_Moved.cl, n3, rfl, s3, rs2, rfl, sq_of hs3, _, _, rfl, rfl, rfl, _, rfl, ?_⟩
    dsimp (config := { proj := false, failIfUnchanged := false }) only
    rw [show (!decide (V.int (ps2.sum + rs2.sum) = V.int 0)) = false from by rw [decide_eq_true (by rw [es])]; rfl]
    refine iteF ?_
    have k12 := k1.trans k2
    have ho2 := k12.l ho
    refine ⟨_, rfl, o, _, rfl, ho2, fun D1 nD1 => ?_⟩
    refine lc_enumF (fun i => oldV (if ((i : Nat) : Int) % 2 = wh % 2 then olds.getD i none else none)) (by rw [List.length_map, lo]; omega) ho2 nD1 (fun _ _ => rfl) (fun i v Tp H3 hv k3 nT Q' hq => ?_) fun H3 k3 hD1 => ?_
    · obtain ⟨old, hold, rfl⟩ : ∃ t, olds[i]? = some t ∧ oldV t = v := by
        rw [List.getElem?_map] at hv
        exact Option.map_eq_some_iff.mp hv
      have eo : olds.getD i none = old := by rw [List.getD_eq_getElem?_getD, hold] <;> rfl
      have q0 := hq _ (Kx.refl _)
      rw [eo] at q0
      refine ⟨_, rfl, _, _, rfl, rfl, (by show (0 : Int) < 2; decide), _, rfl, _, _, rfl, rfl, (by show (0 : Int) < 2; decide), rfl, _, rfl, ?_⟩
      dsimp only
      by_cases e : ((i : Nat) : Int) % 2 = wh % 2
      · rw [if_pos e] at q0
        rw [show decide (V.int (((i : Nat) : Int) % 2) = V.int (wh % 2)) = true from decide_eq_true (by rw [e]), if_pos rfl]
        exact ⟨_, rfl, q0⟩
      · rw [if_neg e] at q0
        rw [show decide (V.int (((i : Nat) : Int) % 2) = V.int (wh % 2)) = false from decide_eq_false fun z => e (V.int.inj z), if_neg Bool.false_ne_true]
        exact q0
    have lsp : ((List.range olds.length).map fun (i : Nat) => if (i : Int) % 2 = wh % 2 then olds.getD i none else none).length = ms.length := by rw [List.length_map, List.length_range, lo]
    rw [show ((List.range (olds.map oldV).length).map fun (i : Nat) => oldV (if (i : Int) % 2 = wh % 2 then olds.getD i none else none)) = ((List.range olds.length).map fun (i : Nat) => if (i : Int) % 2 = wh % 2 then olds.getD i none else none).map oldV by rw [List.length_map, List.map_map] <;> rfl] at hD1
    have spi : ∀ i : Nat, i < ms.length → ((List.range olds.length).map fun (i : Nat) => if (i : Int) % 2 = wh % 2 then olds.getD i none else none).getD i none = if (i : Int) % 2 = wh % 2 then olds.getD i none else none := fun i hi => by
      rw [List.getD_eq_getElem?_getD, List.getElem?_map, List.getElem?_range (by omega)] <;> rfl
    have spin : ∀ x ∈ (List.range olds.length).map fun (i : Nat) => if (i : Int) % 2 = wh % 2 then olds.getD i none else none, ∀ h, x = some h → 0 ≤ h ∧ h ≤ 11 := fun x hx h e => by
      obtain ⟨i, hi, ex⟩ := List.mem_map.mp hx
      have hi := List.mem_range.mp hi
      rw [e] at ex
      split at ex
      · rw [List.getD_eq_getElem?_getD, List.getElem?_eq_getElem hi] at ex
        exact oin _ (List.getElem_mem hi) h ex
      · cases ex
    have le : ∀ i : Nat, i < ms.length → ∀ x, jumpZ (((List.range olds.length).map fun (i : Nat) => if (i : Int) % 2 = wh % 2 then olds.getD i none else none).getD i none) x ≤ jumpZ (olds.getD i none) x := fun i hi x => by
      rw [spi i hi]
      split
      · exact Int.le_refl _
      · exact jumpZ_nn _ _
    generalize ((List.range olds.length).map fun (i : Nat) => if (i : Int) % 2 = wh % 2 then olds.getD i none else none) = sp at lsp hD1 spin le
    clear spi
    have k13 := k12.trans k3
    refine ⟨_, rfl, _, rfl, _, rfl, l, a, D1, ws, ms, sp, rfl, (W.k k13).at_, W.h80, W.ok, W.al, M.k k13, mok, l6, sq_of hD1, lsp, spin, k13.g _ tm, k13.g _ tc, fun H4 z k4 nz sh3 => ?_⟩
    rcases sh3 with ⟨dz, t1, t2, t3, zs3, ps3, rs3, _, _, hz, ht1, ht2, ht3, cc3⟩ | ⟨dz, t1, t2, as1, ks, _, _, hz, ht1, ht2, tf⟩
    rotate_left
    · exact absurd (tf.no_sit (aa.sit.olds lo lsp)) id
    have k34 := k3.trans k4
    have hx4 := k34.o _ _ hx2 fun ps z => nomatch z
    have z1 := cc3.least (jrows_ok lsp) (aa.sit.olds lo lsp)
    have z2 := costs_le (ws := ws) (zs := zs2) lsp lo le
    have z3 := aa.cost_
    refine ⟨_, rfl, z, cMo, dz, _, _, rfl, hz, e_Moved.cl, n2, rfl, t2, ps3, rfl, sq_of ht2, _, rfl, z, cMo, dz, _, _, rfl, hz, e_Moved.cl, n3, rfl, t3, rs3, rfl, sq_of ht3, _, _, rfl, rfl, ?_⟩
    refine ⟨_, rfl, x, cMo, dx, _, _, rfl, hx4, e_Moved.cl, n2, rfl, r2, ps, rfl, sq_of ((k2.trans k34).lst hz2), _, rfl, x, cMo, dx, _, _, rfl, hx4, e_Moved.cl, n3, rfl, r3, rs, rfl, sq_of ((k2.trans k34).lst hz3), _, _, rfl, rfl, _, _, rfl, rfl, ?_⟩
    show Q (.bl (decide (ps3.sum + rs3.sum ≤ ps.sum + rs.sum))) H4
    rw [decide_eq_true (by omega)]
    exact q _ (k13.trans k4)
end
end CH
end

section
set_option Elab.async false
set_option linter.all false
set_option maxRecDepth 100000
set_option maxHeartbeats 4000000
namespace CH
open PySem PySem.Spec PyProof.Rows L2
open GxR (TabB TabG Tabbed)
/-- below so many bits -/
def Bits (i : Int) (n : Nat) : Prop := i.natAbs < 2 ^ n
theorem Bits.mono {i : Int} {n m : Nat} (h : Bits i n) (l : n ≤ m) : Bits i m := Nat.lt_of_lt_of_le h (Nat.pow_le_pow_right (by decide) l)
theorem Bits.add {i j : Int} {n m k : Nat} (h1 : Bits i n) (h2 : Bits j m) (hn : n + 1 ≤ k) (hm : m + 1 ≤ k) : Bits (i + j) k := by
  have a := h1.mono (show n ≤ k - 1 by omega)
  have b := h2.mono (show m ≤ k - 1 by omega)
  have e : 2 ^ k = 2 ^ (k - 1) + 2 ^ (k - 1) := by
    have : k = (k - 1) + 1 := by omega
    rw [this, Nat.pow_succ]
    simp only [Nat.add_sub_cancel]
    omega
  have t := Int.natAbs_add_le i j
  unfold Bits at a b ⊢
  rw [e]
  omega
theorem Bits.mul {i j : Int} {n m k : Nat} (h1 : Bits i n) (h2 : Bits j m) (hk : n + m ≤ k) : Bits (i * j) k := by
  have z : Bits (i * j) (n + m) := by
    unfold Bits at h1 h2 ⊢
    rw [Int.natAbs_mul, Nat.pow_add]
    exact Nat.mul_lt_mul'' h1 h2
  exact z.mono hk
theorem Bits.of {i : Int} {n : Nat} (h1 : 0 ≤ i) (h2 : i < 2 ^ n) : Bits i n := by
  unfold Bits
  have e : ((i.natAbs : Nat) : Int) = i := Int.natAbs_of_nonneg h1
  have h3 : ((i.natAbs : Nat) : Int) < ((2 ^ n : Nat) : Int) := by
    rw [e]
    have : ((2 ^ n : Nat) : Int) = (2 : Int) ^ n := by simp
    rw [this]
    exact h2
  exact Int.ofNat_lt.mp h3
section
variable {P : Program} {w : World} {K : PySem.W.Frag} {mg : Str → Option Value} {base : Heap} {c aA cc cm : Addr}
abbrev st_law_number : Stmt := top 51
abbrev nm_law_number : List Str := ["_law_cell", "_law_at", "_law_whole", "_law_blend", "_law_more"]
theorem sc_law_number : FnScope nm_law_number ["_law_cell", "_law_at", "_law_whole"] (defScope st_law_number) := C8.fnScope_by (by decide +kernel)
def sp_law_number : Sp := fun vs H Q _ => ∃ (ce at_ wh : Int), vs = [.int ce, .int at_, .int wh] ∧ Bits ce 2000000 ∧ 0 ≤ at_ ∧ at_ ≤ 100000 ∧ ∀ r : Int, Q (.int r) H
theorem ok_law_number (D : DefT K mg "_law_number" st_law_number c) : C8.Cal P w K mg base 1 "_law_number" sp_law_number [] := by
  refine cal_of D sc_law_number (fun _ _ _ _ _ _ us hl => match us, hl with | [_, _, _], _ => rfl) (fun vs H Q E h => ?_) (fun f A outer s H vs Q E hr h => ?_)
  · obtain ⟨ce, at_, wh, rfl, _⟩ := h
    rfl
  · obtain ⟨ce, at_, wh, rfl, hb, h0, h1, q⟩ := h
    have nd := sc_law_number.nd
    refine ⟨_, (pss_cons (ps_if (pt_cmpR op_ge (pv 0) (pe_op op_pow pe_int pe_int) (nomark _)) (pss_one (ps_ret (pe_op op_fdiv (pv 0) (pe_op op_add pe_int (pe_op op_mod (pv 1) pe_int))))) pss_nil)
      (pss_cons (ps_set (i := 3) nd rfl (Or.inl rfl) (pe_op op_mod (pe_op op_add (pe_op op_mul (pe_op op_add (pv 0) (pe_op op_mul pe_int (pv 1))) pe_int) (pv 2)) pe_int))
      (pss_cons (ps_set (i := 4) nd rfl (Or.inl rfl) (pe_op op_mul (pv 3) (pe_op op_add (pe_op op_add (pv 0) (pe_op op_mul pe_int (pv 1))) pe_int)))
      (pss_one (ps_ret (pe_op op_fdiv (pe_op op_mul (pe_op op_mulH (pv 4) (pe_op op_add (pe_op op_add (pv 3) (pv 0)) pe_int)) (pe_op op_add (pe_op op_mul (pv 3) (pv 3)) pe_int)) (pe_op op_add pe_int (pv 1)))))))), ?_⟩
    refine ⟨_, rfl, _, _, rfl, rfl, ⟨by decide, by decide, by decide⟩, _, _, rfl, rfl, _, rfl, iteB (fun z => ?_) (fun z => ?_)⟩
    · refine ⟨_, rfl, _, rfl, _, _, rfl, rfl, (by show (0 : Int) < 7; decide), _, _, rfl, rfl, ?_⟩
      have a1 : 0 ≤ at_ % 7 := Int.emod_nonneg _ (by decide)
      have a2 : at_ % 7 < 7 := Int.emod_lt_of_pos _ (by decide)
      exact ⟨_, _, rfl, rfl, ⟨by omega, by omega⟩, q _⟩
    · refine ⟨_, rfl, _, rfl, _, _, rfl, rfl, .inl ⟨by decide, by decide⟩, _, _, rfl, rfl, _, _, rfl, rfl, .inr ⟨by decide, by decide⟩, _, rfl, _, _, rfl, rfl, _, _, rfl, rfl, (by show (0 : Int) < 2147483647; decide), ?_⟩
      dsimp only
      generalize hbl : ((ce + 977 * at_) * 48271 + wh) % 2147483647 = bl
      have b1 : 0 ≤ bl := by rw [← hbl]; exact Int.emod_nonneg _ (by decide)
      have b2 : bl < 2147483647 := by rw [← hbl]; exact Int.emod_lt_of_pos _ (by decide)
      have bb : Bits bl 31 := Bits.of b1 (by omega)
      refine ⟨_, rfl, _, rfl, _, rfl, _, _, rfl, rfl, .inl ⟨by decide, by decide⟩, _, _, rfl, rfl, _, _, rfl, rfl, _, _, rfl, rfl, .inl ⟨by omega, by omega⟩, ?_⟩
      have c1 : Bits (31 * at_) 40 := Bits.of (by omega) (by omega)
      have c2 : Bits (7 : Int) 10 := Bits.of (by decide) (by decide)
      have c3 : Bits (5 : Int) 10 := Bits.of (by decide) (by decide)
      have m1 : Bits (bl * (ce + 31 * at_ + 7)) 2000040 := bb.mul ((hb.add c1 (k := 2000001) (by omega) (by omega)).add c2 (k := 2000002) (by omega) (by omega)) (by omega)
      have m2 : Bits (bl + ce + 5) 2000002 := ((bb.add hb (k := 2000001) (by omega) (by omega)).add c3 (by omega) (by omega))
      have m3 : 0 ≤ bl * bl := Int.mul_nonneg b1 b1
      have m4 : bl * bl ≤ 2147483647 * 2147483647 := Int.mul_le_mul (by omega) (by omega) b1 (by decide)
      refine ⟨_, rfl, _, rfl, _, rfl, _, _, rfl, rfl, _, _, rfl, rfl, _, _, rfl, rfl, huge_mul (a := 2000040) (b := 2000002) m1 m2 (by decide) (by decide) (by decide), _, rfl, _, rfl, _, _, rfl, rfl, .inl ⟨by omega, by omega⟩, _, _, rfl, rfl, _, _, rfl, rfl, .inr ⟨by omega, by omega⟩, _, rfl, _, _, rfl, rfl, ?_⟩
      exact ⟨_, _, rfl, rfl, ⟨by omega, by omega⟩, q _⟩
end
end CH
end

section
set_option Elab.async false
set_option linter.all false
set_option maxRecDepth 100000
set_option maxHeartbeats 4000000
namespace CH
open PySem PySem.Spec PyProof.Rows L2
open GxR (TabB TabG Tabbed)
/-- the dict of the greatest pairs -/
def BestD (H : Hp) (kvs : List (List Key × V)) (ws : List Wd) : Prop := ∀ p o, (bestW ws p o = none ∧ valV kvs (kPO p o) = none) ∨ ∃ x t, bestW ws p o = some x ∧ valV kvs (kPO p o) = some (.ref t) ∧ H t = some (.tup [.int x.c, .int x.h])
theorem lexAt2 (a b c d : Int) : Ob.lexAt (fun j => decide ([a, b].getD j 0 = [c, d].getD j 0)) (fun j => decide ([a, b].getD j 0 ≤ [c, d].getD j 0)) (decide ([a, b].length ≤ [c, d].length)) 0 (min [a, b].length [c, d].length) = decide (a < c ∨ (a = c ∧ b ≤ d)) := by
  show Ob.lexAt (fun j => decide ([a, b].getD j 0 = [c, d].getD j 0)) (fun j => decide ([a, b].getD j 0 ≤ [c, d].getD j 0)) (decide (2 ≤ 2)) 0 2 = _
  rw [Ob.lexAt_succ, Ob.lexAt_succ, Ob.lexAt_zero]
  show (if decide (a = c) = true then (if decide (b = d) = true then decide (2 ≤ 2) else decide (b ≤ d)) else decide (a ≤ c)) = _
  by_cases e : a = c
  · by_cases e2 : b = d
    · simp [e, e2]
    · have e3 : ¬ c < c := Int.lt_irrefl c
      simp [e, e2, e3]
  · simp only [decide_eq_true_eq, if_neg e]
    refine decide_eq_decide.mpr ?_
    omega
section
variable {P : Program} {w : World} {K : PySem.W.Frag} {mg : Str → Option Value} {base : Heap} {c aA cc cm : Addr}
abbrev st_law_answers : Stmt := top 53
abbrev nm_law_answers : List Str := ["_law_words_here", "_law_found", "_law_best", "_law_count", "_law_hand", "_law_person", "_law_hour", "_law_word"]
theorem sc_law_answers : FnScope nm_law_answers ["_law_words_here"] (defScope st_law_answers) := C8.fnScope_by (by decide +kernel)
def sp_law_answers (K : PySem.W.Frag) : Sp := fun vs H Q _ => ∃ (l : Addr) (ws : List Wd), vs = [.ref l] ∧ WsAt K H l ws ∧ ws.length ≤ 200 ∧ (∀ x ∈ ws, x.ok) ∧
  ∀ (H' : Hp) (d : Addr) (kvs : List (List Key × V)), Kx H H' → H d = none → H' d = some (.dT kvs) → AnsD kvs (ansW ws) → Q (.ref d) H'
theorem ok_law_answers (D : DefT K mg "_law_answers" st_law_answers c) : C8.Cal P w K mg base 1 "_law_answers" (sp_law_answers K) [] := by
  refine cal_of D sc_law_answers (fun _ _ _ _ _ _ us hl => match us, hl with | [_], _ => rfl) (fun vs H Q E h => ?_) (fun f A outer s H vs Q E hr h => ?_)
  · obtain ⟨l, ws, rfl, _⟩ := h
    rfl
  · obtain ⟨l, ws, rfl, ⟨ts, hl, hw⟩, h200, hok, q⟩ := h
    have nd := sc_law_answers.nd
    have hu := hu_of hr
    have len := paired_len hw
    refine ⟨_, (pss_cons (ps_par (i := 1) (j := 2) (by rfl) nd rfl rfl (by decide) rfl rfl (pa_cons pe_dnewT (pa_cons pe_dnewT pa_nil)) (by rfl))
      (pss_cons (ps_for PassesOwn.never rfl (pi_list (pv 0)) (pg_tup (by rfl) (pgs_cons (pg_name (i := 3) nd rfl (Or.inl rfl)) (pgs_cons (pg_name (i := 4) nd rfl (Or.inl rfl)) (pgs_cons (pg_name (i := 5) nd rfl (Or.inl rfl)) (pgs_cons (pg_name (i := 6) nd rfl (Or.inl rfl)) (pgs_cons (pg_name (i := 7) nd rfl (Or.inl rfl)) pgs_nil)))))) (pss_one (ps_if (pt_cmpR (op_leT hr.units0) (pe_dget2 hu (pv 2) (pe_tup (pa_cons (pv 5) (pa_cons (pv 6) pa_nil))) (pe_tup (pa_cons pe_int (pa_cons pe_int pa_nil))) ⟨rfl, rfl, rfl, rfl⟩) (pe_tup (pa_cons (pv 3) (pa_cons (pv 4) pa_nil))) (nomark _)) (pss_cons (ps_dput hu (pv 2) (pe_tup (pa_cons (pv 5) (pa_cons (pv 6) pa_nil))) (pe_tup (pa_cons (pv 3) (pa_cons (pv 4) pa_nil))) rfl)
      (pss_one (ps_dput hu (pv 1) (pe_tup (pa_cons (pv 5) (pa_cons (pv 6) pa_nil))) (pv 7) rfl))) pss_nil)))
      (pss_one (ps_ret (pv 1))))), ?_⟩
    intro dF nF dB nB
    have kF : Kx H (upd H dF (.dT [])) := Kx.new nF
    have kB : Kx (upd H dF (.dT [])) (upd (upd H dF (.dT [])) dB (.dT [])) := Kx.new nB
    have nFB : dF ≠ dB := ne_of_none upd_same nB
    have nB0 : H dB = none := kF.f _ nB
    refine ⟨_, _, rfl, ?_⟩
    refine ⟨_, rfl, l, rfl, ⟨_, (kF.trans kB).l hl⟩, for_list (K := K) (a := l) (xs := ts.map V.ref) (fun i σ H2 => ∃ (kvF kvB : List (List Key × V)) (v3 v4 v5 v6 v7 : Option V), σ = [some (.ref l), some (.ref dF), some (.ref dB), v3, v4, v5, v6, v7] ∧ Kx H H2 ∧
        H2 dF = some (.dT kvF) ∧ H2 dB = some (.dT kvB) ∧ AnsD kvF (ansW (ws.take i)) ∧ BestD H2 kvB (ws.take i) ∧ kvF.length ≤ i ∧ kvB.length ≤ i)
      ⟨[], [], none, none, none, none, none, rfl, kF.trans kB, by rw [upd_ne nFB, upd_same], upd_same, fun p o => rfl, fun p o => .inl ⟨rfl, rfl⟩, Nat.le_refl _, Nat.le_refl _⟩ (fun i σ H2 _ ⟨_, _, _, _, _, _, _, _, k2, _⟩ => k2.l hl) ?_ ?_⟩
    · rintro i y σ H2 hi ⟨kvF, kvB, v3, v4, v5, v6, v7, rfl, k2, hF, hB, aF, aB, lF, lB⟩
      obtain ⟨t, ht, rfl⟩ : ∃ t, ts[i]? = some t ∧ V.ref t = y := by
        rw [List.getElem?_map] at hi
        exact Option.map_eq_some_iff.mp hi
      obtain ⟨x, hx, hsx⟩ := paired_at hw ht
      have hxo := hok x (List.mem_of_getElem? hx)
      have hi2 : i < ts.length := (List.getElem?_eq_some_iff.mp ht).1
      have e1 : ws.take (i + 1) = ws.take i ++ [x] := by rw [List.take_add_one, hx] <;> rfl
      refine ⟨t, _, rfl, k2.t hsx, rfl, _, _, rfl, _, _, rfl, _, _, rfl, _, _, rfl, _, _, rfl, rfl, ?_⟩
      -- best.get((p, o), (0, 0)) <= (c, h)
      refine ⟨_, rfl, dB, rfl, .inr ⟨_, .inl hB⟩, _, rfl, _, rfl, (by show 2 ≤ sizeLine; decide), fun k nk => ?_⟩
      have k3 : Kx H2 (upd H2 k (.tup [.int x.p, .int x.o])) := Kx.new nk
      refine ⟨(by show 2 ≤ sizeLine; decide), fun z nz => ?_⟩
      have k4 : Kx (upd H2 k (.tup [.int x.p, .int x.o])) (upd (upd H2 k (.tup [.int x.p, .int x.o])) z (.tup [.int 0, .int 0])) := Kx.new nz
      have k24 := k3.trans k4
      refine ⟨_, DGet.t (k := kPO x.p x.o) (k24.dt hB) (k4.tup upd_same), _, rfl, _, rfl, (by show 2 ≤ sizeLine; decide), fun y ny => ?_⟩
      generalize hH4 : upd (upd H2 k (.tup [.int x.p, .int x.o])) z (.tup [.int 0, .int 0]) = H4 at ny k4 k24 ⊢
      have hz4 : H4 z = some (.tup [.int 0, .int 0]) := by rw [← hH4, upd_same]
      have k5 : Kx H4 (upd H4 y (.tup [.int x.c, .int x.h])) := Kx.new ny
      have hy5 : (upd H4 y (.tup [.int x.c, .int x.h])) y = some (.tup [.int x.c, .int x.h]) := upd_same
      generalize hH5 : upd H4 y (.tup [.int x.c, .int x.h]) = H5 at k5 hy5 ⊢
      have k25 := k24.trans k5
      have bst : ∀ p o, bestW (ws.take (i + 1)) p o = if x.p = p ∧ x.o = o ∧ pleO (bestW (ws.take i) p o) x then some x else bestW (ws.take i) p o := fun p o => by
        rw [e1, bestW_snoc]
      -- the test's answer
      have ans : ∃ (a b : Addr) (ns ms : List Int), (valV kvB (kPO x.p x.o)).getD (.ref z) = .ref a ∧ V.ref y = .ref b ∧ SqT K H5 a (ns.map V.int) ∧ SqT K H5 b (ms.map V.int) ∧
          Ob.lexAt (fun j => decide (ns.getD j 0 = ms.getD j 0)) (fun j => decide (ns.getD j 0 ≤ ms.getD j 0)) (decide (ns.length ≤ ms.length)) 0 (min ns.length ms.length) = decide (pleO (bestW (ws.take i) x.p x.o) x) := by
        rcases aB x.p x.o with ⟨b0, v0⟩ | ⟨x0, t0, b0, v0, h0⟩
        · refine ⟨z, y, [0, 0], [x.c, x.h], by rw [v0] <;> rfl, rfl, st_of (k5.tup hz4), st_of hy5, ?_⟩
          obtain ⟨o1, _, o3, _⟩ := hxo
          rw [lexAt2, b0]
          refine decide_eq_decide.mpr ⟨fun _ => trivial, fun _ => ?_⟩
          omega
        · refine ⟨t0, y, [x0.c, x0.h], [x.c, x.h], by rw [v0] <;> rfl, rfl, st_of (k25.tup h0), st_of hy5, ?_⟩
          rw [lexAt2, b0]
          exact decide_eq_decide.mpr Iff.rfl
      obtain ⟨a', b', ns, ms, g1, g2, g3, g4, g5⟩ := ans
      refine ⟨a', b', ns, ms, g1, g2, g3, g4, _, rfl, ?_⟩
      rw [g5]
      refine ite2 (fun hp => ?_) (fun hp => ?_)
      · -- stored
        have hp := of_decide_eq_true hp
        refine ⟨_, rfl, _, rfl, (by show 2 ≤ sizeLine; decide), fun t2 nt2 => ?_⟩
        have k6 : Kx H5 (upd H5 t2 (.tup [.int x.c, .int x.h])) := Kx.new nt2
        refine ⟨_, rfl, _, rfl, _, rfl, (by show 2 ≤ sizeLine; decide), fun q2 nq2 => ?_⟩
        have ht2 : (upd H5 t2 (.tup [.int x.c, .int x.h])) t2 = some (.tup [.int x.c, .int x.h]) := upd_same
        generalize hH6 : upd H5 t2 (.tup [.int x.c, .int x.h]) = H6 at k6 ht2 nq2 ⊢
        have k7 : Kx H6 (upd H6 q2 (.tup [.int x.p, .int x.o])) := Kx.new nq2
        have hq2 : (upd H6 q2 (.tup [.int x.p, .int x.o])) q2 = some (.tup [.int x.p, .int x.o]) := upd_same
        generalize hH7 : upd H6 q2 (.tup [.int x.p, .int x.o]) = H7 at k7 hq2 ⊢
        have k27 := (k25.trans k6).trans k7
        have hB7 := k27.dt hB
        have hF7 := k27.dt hF
        refine ⟨dB, _, rfl, DPut.t (k := kPO x.p x.o) hB7 hq2 (lt80 (by omega)), ?_⟩
        refine ⟨_, rfl, _, rfl, _, rfl, _, rfl, (by show 2 ≤ sizeLine; decide), fun q3 nq3 => ?_⟩
        have neFB : dF ≠ dB := nFB
        have hF8 : (upd H7 dB (.dT (putK kvB (kPO x.p x.o) (.ref t2)))) dF = some (.dT kvF) := by rw [upd_ne neFB]; exact hF7
        have hB8 : (upd H7 dB (.dT (putK kvB (kPO x.p x.o) (.ref t2)))) dB = some (.dT (putK kvB (kPO x.p x.o) (.ref t2))) := upd_same
        have k08 : Kx H (upd H7 dB (.dT (putK kvB (kPO x.p x.o) (.ref t2)))) := (k2.trans k27).mut nB0
        have tup8 : ∀ b xs, H7 b = some (.tup xs) → (upd H7 dB (.dT (putK kvB (kPO x.p x.o) (.ref t2)))) b = some (.tup xs) := fun b xs e => by
          rw [upd_ne (fun z => by rw [z, hB7] at e; cases e)]
          exact e
        generalize hH8 : upd H7 dB (.dT (putK kvB (kPO x.p x.o) (.ref t2))) = H8 at hF8 hB8 k08 tup8 nq3 ⊢
        have k9 : Kx H8 (upd H8 q3 (.tup [.int x.p, .int x.o])) := Kx.new nq3
        have hq3 : (upd H8 q3 (.tup [.int x.p, .int x.o])) q3 = some (.tup [.int x.p, .int x.o]) := upd_same
        have tup9 : ∀ b xs, H8 b = some (.tup xs) → (upd H8 q3 (.tup [.int x.p, .int x.o])) b = some (.tup xs) := fun b xs e => k9.tup e
        have hF9 := k9.dt hF8
        have hB9 := k9.dt hB8
        generalize hH9 : upd H8 q3 (.tup [.int x.p, .int x.o]) = H9 at k9 hq3 tup9 hF9 hB9 ⊢
        refine ⟨dF, _, rfl, DPut.t (k := kPO x.p x.o) hF9 hq3 (lt80 (by omega)), ?_⟩
        refine ⟨putK kvF (kPO x.p x.o) (.str x.a), putK kvB (kPO x.p x.o) (.ref t2), _, _, _, _, _, rfl, (k08.trans k9).mut nF, upd_same, by rw [upd_ne neFB.symm]; exact hB9, fun p o => ?_, fun p o => ?_, ?_, ?_⟩
        · unfold ansW
          rw [valV_put, bst]
          by_cases e : x.p = p ∧ x.o = o
          · obtain ⟨rfl, rfl⟩ := e
            rw [if_pos rfl, if_pos ⟨rfl, rfl, hp⟩] <;> rfl
          · rw [if_neg (fun z => e ⟨(kPO_inj.mp z).1.symm, (kPO_inj.mp z).2.symm⟩), if_neg (fun z => e ⟨z.1, z.2.1⟩)]
            exact aF p o
        · rw [valV_put, bst]
          by_cases e : x.p = p ∧ x.o = o
          · obtain ⟨rfl, rfl⟩ := e
            rw [if_pos rfl, if_pos ⟨rfl, rfl, hp⟩]
            refine .inr ⟨x, t2, rfl, rfl, ?_⟩
            rw [upd_ne (fun z => by rw [z] at ht2; have := tup9 _ _ (tup8 _ _ (k7.tup ht2)); rw [hF9] at this; cases this)]
            exact tup9 _ _ (tup8 _ _ (k7.tup ht2))
          · rw [if_neg (fun z => e ⟨(kPO_inj.mp z).1.symm, (kPO_inj.mp z).2.symm⟩), if_neg (fun z => e ⟨z.1, z.2.1⟩)]
            rcases aB p o with ⟨b0, v0⟩ | ⟨x0, t0, b0, v0, h0⟩
            · exact .inl ⟨b0, v0⟩
            · have h9 := tup9 _ _ (tup8 _ _ (k27.tup h0))
              refine .inr ⟨x0, t0, b0, v0, ?_⟩
              rw [upd_ne (fun z => by rw [z, hF9] at h9; cases h9)]
              exact h9
        · have := length_putK kvF (kPO x.p x.o) (.str x.a)
          omega
        · have := length_putK kvB (kPO x.p x.o) (.ref t2)
          omega
      · -- not stored
        have hp : ¬ pleO (bestW (ws.take i) x.p x.o) x := fun z => hp (decide_eq_true z)
        have same : bestW (ws.take (i + 1)) = bestW (ws.take i) := by
          funext p o
          rw [bst]
          exact if_neg fun z => hp (by obtain ⟨rfl, rfl, z⟩ := z; exact z)
        refine ⟨kvF, kvB, _, _, _, _, _, rfl, k2.trans k25, k25.dt hF, k25.dt hB, fun p o => ?_, fun p o => ?_, by omega, by omega⟩
        · unfold ansW
          rw [same]
          exact aF p o
        · rw [same]
          rcases aB p o with z | ⟨x0, t0, b0, v0, h0⟩
          · exact .inl z
          · exact .inr ⟨x0, t0, b0, v0, k25.tup h0⟩
    · rintro σ H2 ⟨kvF, kvB, v3, v4, v5, v6, v7, rfl, k2, hF, hB, aF, aB, lF, lB⟩
      rw [List.length_map, len, List.take_length] at aF
      exact ⟨_, rfl, q H2 dF kvF k2 nF hF aF⟩
end
end CH
end

section
set_option Elab.async false
set_option linter.all false
set_option maxRecDepth 100000
set_option maxHeartbeats 4000000
namespace CH
open PySem PySem.Spec PyProof.Rows L2
open GxR (TabB TabG Tabbed)
section
variable {P : Program} {w : World} {K : PySem.W.Frag} {mg : Str → Option Value} {base : Heap} {c aA cc cm : Addr}
abbrev st_law_hours : Stmt := top 55
abbrev nm_law_hours : List Str := ["_law_answers_here", "_law_meeting_here", "_law_good", "_law_people", "_law_enough", "_law_needed", "_law_found", "_law_hour", "_law_come", "_law_one"]
theorem sc_law_hours : FnScope nm_law_hours ["_law_answers_here", "_law_meeting_here", "_law_good"] (defScope st_law_hours) := C8.fnScope_by (by decide +kernel)
def sp_law_hours (K : PySem.W.Frag) : Sp := fun vs H Q _ => ∃ (d a g : Addr) (m : Mt) (kvs : List (List Key × V)) (f : Int → Int → Option Str) (cs : List Str), vs = [.ref d, .ref a, .ref g] ∧ MAt K H a m ∧ m.ok ∧ H d = some (.dT kvs) ∧ AnsD kvs f ∧
  SqT K H g (cs.map V.str) ∧ ∀ (H' : Hp) (r : Addr), Kx H H' → H r = none → H' r = some (.lst ((hoursL m cs fun x o => (f x o).getD "no").map V.int)) → Q (.ref r) H'
theorem ok_law_hours (D : DefT K mg "_law_hours" st_law_hours c) (T : Tx K mg aA) : C8.Cal P w K mg base 1 "_law_hours" (sp_law_hours K) [] := by
  refine cal_of D sc_law_hours (fun _ _ _ _ _ _ us hl => match us, hl with | [_, _, _], _ => rfl) (fun vs H Q E h => ?_) (fun fa A outer s H vs Q E hr h => ?_)
  · obtain ⟨d, a, g, m, kvs, f, cs, rfl, _⟩ := h
    rfl
  · obtain ⟨d, a, g, m, kvs, f, cs, rfl, ⟨p, n, ha, hp, hn⟩, mok, hd, hf, hg, q⟩ := h
    have nd := sc_law_hours.nd
    have hu := hu_of hr
    have h8 := rise_len8 mok.p
    have h8n := rise_len8 mok.n
    refine ⟨_, (pss_cons (ps_asg (pv 1) (pg_tup (by rfl) (pgs_cons (pg_name (i := 3) nd rfl (Or.inl rfl)) (pgs_cons (pg_name (i := 4) nd rfl (Or.inl rfl)) (pgs_cons (pg_name (i := 5) nd rfl (Or.inl rfl)) pgs_nil)))))
      (pss_cons (ps_set (i := 6) nd rfl (Or.inl rfl) (pe_lst pa_nil))
      (pss_cons (ps_for PassesOwn.never rfl (pi_range1 (by rfl) T.z_range (pa_cons pe_int pa_nil)) (pg_name (i := 7) nd rfl (Or.inr rfl)) (pss_cons (ps_set (i := 8) nd rfl (Or.inr rfl) (pe_lc (own := [("_law_one", 9)]) (g := gName 9) (by rfl) nd (pi_tup (pv 3)) (blkOk_by (own := [("_law_one", 9)]) (N := nm_law_hours) (sc := defScope st_law_hours) (by decide +kernel)) (fun _ _ _ _ _ => pg_name (i := 9) nd rfl (Or.inl rfl)) (fun _ _ _ _ _ => pts_one (pt_cmpR (show OpR _ (compareOp .In) (rIn K false) from op_in_seq) (pe_dget2 hu (pv 0) (pe_tup (pa_cons (pv 9) (pa_cons (pv 7) pa_nil))) pe_str ⟨rfl, rfl, rfl, rfl⟩) (pv 2) (by rfl))) (fun _ _ _ _ _ => (pv 9))))
      (pss_one (ps_if (PW.pt (pw_and (pt_cmpR op_ge (pe_callB call_len_seq (by rfl) T.z_len PySem.boot_len (pa_cons (pv 8) pa_nil)) (pv 4) (nomark _)) (pw_and1 (pt_val (pe_callB (cr_all rfl) (by rfl) T.z_all (by decide +kernel) (pa_cons (pe_lc (own := [("_law_one", 9)]) (g := gName 9) (tt := tYes) (by rfl) nd (pi_tup (pv 5)) (blkOk_by (own := [("_law_one", 9)]) (N := nm_law_hours) (sc := defScope st_law_hours) (by decide +kernel)) (fun _ _ _ _ _ => pg_name (i := 9) nd rfl (Or.inl rfl)) (fun _ _ _ _ _ => pts_nil) (fun _ _ _ _ _ => (pe_cmpR (show OpR _ (compareOp .In) (rIn K false) from op_in_seq) (pv 9) (pv 8) (by rfl)))) pa_nil)))))) (pss_one (ps_expr (pe_bm PySem.F.plainAttrs_list PySem.F.slot_list_append PySem.F.type_list_append mt_append (pv 6) (pa_cons (pv 7) pa_nil)))) pss_nil))))
      (pss_one (ps_ret (pv 6)))))), ?_⟩
    refine ⟨_, rfl, a, _, rfl, ha, rfl, _, _, rfl, _, _, rfl, _, _, rfl, rfl, ?_⟩
    refine ⟨Nat.zero_le _, fun r nr => ?_⟩
    have k0 : Kx H (upd H r (.lst [])) := Kx.new nr
    refine ⟨12, rfl, by decide, by decide, for_range (lo := 0) (n := 12) (fun i σ H2 => ∃ (v7 v8 v9 : Option V), σ = [some (.ref d), some (.ref a), some (.ref g), some (.ref p), some (.int m.e), some (.ref n), some (.ref r), v7, v8, v9] ∧ Kx H H2 ∧
        H2 r = some (.lst (((((List.range 12).take i).filter fun o => canB m cs fun x => (f x (Int.ofNat o)).getD "no").map Int.ofNat).map V.int)))
      ⟨none, none, none, rfl, k0, upd_same⟩ ?_ ?_⟩
    · rintro i σ H2 hi ⟨v7, v8, v9, rfl, k2, hr2⟩
      have eo : (0 : Int) + (i : Int) = Int.ofNat i := Int.zero_add _
      -- come
      refine ⟨_, rfl, p, rfl, ⟨_, k2.t hp⟩, fun D nD => ?_⟩
      have k3 : Kx H2 (upd H2 D (.lst [])) := Kx.new nD
      refine lc_tup (K := K) (a := p) (xs := m.ps.map V.int) (fun j H3 => Kx H2 H3 ∧ H3 D = some (.lst ((comeL (m.ps.take j) cs fun x => (f x (0 + (i : Int))).getD "no").map V.int)))
        ⟨k3, upd_same⟩ (fun j H3 _ h => h.1.t (k2.t hp)) ?_ ?_
      · rintro j y H3 hj ⟨k4, hD3⟩
        obtain ⟨x, hx, rfl⟩ : ∃ x, m.ps[j]? = some x ∧ V.int x = y := by
          rw [List.getElem?_map] at hj
          exact Option.map_eq_some_iff.mp hj
        have e1 : m.ps.take (j + 1) = m.ps.take j ++ [x] := by rw [List.take_add_one, hx] <;> rfl
        refine ⟨rfl, _, rfl, d, rfl, .inr ⟨_, .inl ((k2.trans k4).dt hd)⟩, _, rfl, _, rfl, (by show 2 ≤ sizeLine; decide), fun k nk => ?_⟩
        have k5 : Kx H3 (upd H3 k (.tup [.int x, .int (0 + (i : Int))])) := Kx.new nk
        refine ⟨_, DGet.t (k := kPO x (0 + (i : Int))) (((k2.trans k4).trans k5).dt hd) upd_same, ?_⟩
        rw [hf x (0 + (i : Int))]
        have e2 : ((f x (0 + (i : Int))).map V.str).getD (.str "no") = .str ((f x (0 + (i : Int))).getD "no") := by cases f x (0 + (i : Int)) <;> rfl
        rw [e2]
        refine ⟨_, rfl, g, _, rfl, .inr (((k2.trans k4).trans k5).t hg), rfl, flat_str _, _, rfl, ?_⟩
        rw [if_neg Bool.false_ne_true, inV_str]
        have e3 : (comeL (m.ps.take (j + 1)) cs fun x => (f x (0 + (i : Int))).getD "no") = (comeL (m.ps.take j) cs fun x => (f x (0 + (i : Int))).getD "no") ++ (if decide ((f x (0 + (i : Int))).getD "no" ∈ cs) = true then [x] else []) := by
          rw [e1]
          unfold comeL
          rw [filter_snoc]
        have hD4 := k5.lst hD3
        refine iteB (fun z => ?_) (fun z => ?_)
        · refine ⟨_, rfl, _, hD4, ?_, (k4.trans k5).mut nD, ?_⟩
          · rw [List.length_map]
            refine lt80 (Nat.lt_of_le_of_lt (List.length_filter_le _ _) ?_)
            rw [List.length_take]
            omega
          · rw [upd_same, e3, if_pos z, List.map_append] <;> rfl
        · refine ⟨k4.trans k5, ?_⟩
          rw [e3, z, if_neg Bool.false_ne_true, List.append_nil]
          exact hD4
      · rintro H3 ⟨k4, hD3⟩
        rw [List.length_map, List.take_length, eo] at hD3
        generalize hL : (comeL m.ps cs fun x => (f x (Int.ofNat i)).getD "no") = L at hD3
        have hcan : (canB m cs fun x => (f x (Int.ofNat i)).getD "no") = (decide (m.e ≤ (L.length : Int)) && m.nds.all fun x => decide (x ∈ L)) := by
          unfold canB
          rw [hL]
        have k24 := k2.trans k4
        have hr3 := k4.lst hr2
        have ernx := range_take (n := 12) hi
        refine ⟨_, rfl, D, _, rfl, .inl (sq_of hD3), _, rfl, _, _, rfl, rfl, _, rfl, ?_⟩
        rw [List.length_map]
        refine iteB (fun z => ?_) (fun z => ?_)
        · have z' : m.e ≤ (L.length : Int) := of_decide_eq_true z
          -- all needed
          refine ⟨_, rfl, n, rfl, ⟨_, k24.t hn⟩, fun D2 nD2 => ?_⟩
          have k5 : Kx H3 (upd H3 D2 (.lst [])) := Kx.new nD2
          refine lc_tup (K := K) (a := n) (xs := m.nds.map V.int) (fun j H4 => Kx H3 H4 ∧ H4 D2 = some (.lst (((m.nds.take j).map fun x => decide (x ∈ L)).map V.bl)))
            ⟨k5, upd_same⟩ (fun j H4 _ h => h.1.t (k24.t hn)) ?_ ?_
          · rintro j y H4 hj ⟨k6, hD4⟩
            obtain ⟨x, hx, rfl⟩ : ∃ x, m.nds[j]? = some x ∧ V.int x = y := by
              rw [List.getElem?_map] at hj
              exact Option.map_eq_some_iff.mp hj
            have e1 : m.nds.take (j + 1) = m.nds.take j ++ [x] := by rw [List.take_add_one, hx] <;> rfl
            refine ⟨rfl, ?_⟩
            refine yesT ?_
            refine ⟨_, rfl, _, rfl, D, _, rfl, .inl (sq_of (k6.lst hD3)), rfl, flat_int _, ?_⟩
            rw [if_neg Bool.false_ne_true, inV_int]
            refine ⟨_, hD4, ?_, k6.mut nD2, ?_⟩
            · rw [List.length_map, List.length_map, List.length_take]
              exact lt80 (by omega)
            · rw [upd_same, e1, List.map_append, List.map_append] <;> rfl
          · rintro H4 ⟨k6, hD4⟩
            rw [List.length_map, List.take_length] at hD4
            refine ⟨D2, _, rfl, sq_of hD4, _, rfl, ?_⟩
            have e5 : ((m.nds.map fun x => decide (x ∈ L)).all id) = canB m cs fun x => (f x (Int.ofNat i)).getD "no" := by
              rw [hcan, decide_eq_true z', Bool.true_and, List.all_map]
              rfl
            rw [e5]
            have hr4 := k6.lst hr3
            refine iteB (fun y => ?_) (fun y => ?_)
            · refine ⟨_, rfl, .inl ⟨rfl, _, sq_of hr4⟩, _, rfl, r, _, _, rfl, rfl, hr4, ?_, _, _, _, rfl, (k24.trans k6).mut nr, ?_⟩
              · rw [List.length_map, List.length_map]
                refine lt80 (Nat.lt_of_le_of_lt (List.length_filter_le _ _) ?_)
                rw [List.length_take]
                omega
              · rw [upd_same, ernx, filter_snoc, if_pos y, List.map_append, List.map_append, eo] <;> rfl
            · refine ⟨_, _, _, rfl, k24.trans k6, ?_⟩
              rw [ernx, filter_snoc, if_neg (by rw [y]; decide), List.append_nil]
              exact hr4
        · have z' : ¬ m.e ≤ (L.length : Int) := of_decide_eq_false z
          have y : (canB m cs fun x => (f x (Int.ofNat i)).getD "no") = false := by
            rw [hcan, decide_eq_false z', Bool.false_and]
          refine ⟨_, _, _, rfl, k24, ?_⟩
          rw [ernx, filter_snoc, if_neg (by rw [y]; decide), List.append_nil]
          exact hr3
    · rintro σ H2 ⟨v7, v8, v9, rfl, k2, hr2⟩
      exact ⟨_, rfl, q H2 r k2 nr hr2⟩
abbrev st_law_meeting : Stmt := top 54
abbrev nm_law_meeting : List Str := ["_law_number_here", "_law_people", "_law_one", "_law_far", "_law_needed"]
theorem sc_law_meeting : FnScope nm_law_meeting ["_law_number_here"] (defScope st_law_meeting) := C8.fnScope_by (by decide +kernel)
def sp_law_meeting (K : PySem.W.Frag) : Sp := fun vs H Q _ => ∃ (n : Int), vs = [.int n] ∧ 0 ≤ n ∧ ∀ (H' : Hp) (a : Addr) (m : Mt), Kx H H' → MAt K H' a m → m.ok → Q (.ref a) H'
theorem rise_filter (p : Nat → Bool) : ∀ (k : Nat) (b : Int) (j : Nat), b + 1 ≤ (j : Int) → j + k ≤ 8 → Rise b (((List.range' j k).filter p).map Int.ofNat)
  | 0, b, j, _, _ => trivial
  | k + 1, b, j, h1, h2 => by
    rw [List.range'_succ]
    by_cases hp : p j = true
    · rw [List.filter_cons_of_pos hp, List.map_cons]
      refine ⟨h1, by show (j : Int) ≤ 7; omega, rise_filter p k (Int.ofNat j) (j + 1) ?_ (by omega)⟩
      show (j : Int) + 1 ≤ ((j + 1 : Nat) : Int)
      omega
    · rw [List.filter_cons_of_neg hp]
      exact rise_filter p k b (j + 1) (by omega) (by omega)
theorem rise_range (p : Nat → Bool) : Rise (-1) (((List.range 8).filter p).map Int.ofNat) := by
  rw [List.range_eq_range']
  exact rise_filter p 8 (-1) 0 (by decide) (by decide)
theorem rise_sub (p : Int → Bool) : ∀ {b : Int} {ns : List Int}, Rise b ns → Rise b (ns.filter p)
  | _, [], _ => trivial
  | b, n :: ns, h => by
    obtain ⟨h1, h2, h3⟩ := h
    by_cases hp : p n = true
    · rw [List.filter_cons_of_pos hp]
      exact ⟨h1, h2, rise_sub p h3⟩
    · rw [List.filter_cons_of_neg hp]
      have up : ∀ {a b : Int} {l : List Int}, a ≤ b → Rise b l → Rise a l := by
        intro a b l hab hl
        cases l with
        | nil => trivial
        | cons y l => exact ⟨by have := hl.1; omega, hl.2.1, hl.2.2⟩
      exact up (by omega) (rise_sub p h3)
theorem rise_lo : ∀ {b : Int} {ns : List Int}, -1 ≤ b → Rise b ns → ∀ x ∈ ns, 0 ≤ x
  | _, [], _, _, x, hx => absurd hx (by simp)
  | b, n :: ns, hb, h, x, hx => by
    rcases List.mem_cons.mp hx with rfl | hx
    · have := h.1
      omega
    · exact rise_lo (by have := h.1; omega) h.2.2 x hx
theorem tD_sh (ns : List Int) : SeqAt.shaped (.tuple (ns.map PyData.int)) = true := by
  unfold SeqAt.shaped
  simp only [PyData.canLay0, ints_lay, PyData.depth, ints_depth]
  rfl
theorem ok_law_meeting (D : DefT K mg "_law_meeting" st_law_meeting c) (T : Tx K mg aA) : C8.Cal P w K mg base 1 "_law_meeting" (sp_law_meeting K) [] := by
  refine cal_of D sc_law_meeting (fun _ _ _ _ _ _ us hl => match us, hl with | [_], _ => rfl) (fun vs H Q E h => ?_) (fun fa A outer s H vs Q E hr h => ?_)
  · obtain ⟨n, rfl, _⟩ := h
    rfl
  · obtain ⟨n, rfl, h0, q⟩ := h
    have nd := sc_law_meeting.nd
    refine ⟨_, (pss_cons (ps_set (i := 1) nd rfl (Or.inl rfl) (pe_callTy call_tuple_of (by rfl) T.z_tuple (by decide +kernel) (pa_cons (pe_lc (own := [("_law_one", 2)]) (g := gName 2) (by rfl) nd (pi_range1 (by rfl) T.z_range (pa_cons pe_int pa_nil)) (blkOk_by (own := [("_law_one", 2)]) (N := nm_law_meeting) (sc := defScope st_law_meeting) (by decide +kernel)) (fun _ _ _ _ _ => pg_name (i := 2) nd rfl (Or.inl rfl)) (fun _ _ _ _ _ => pts_one (pt_cmpR op_eq (pe_op op_and (pe_op op_shr (pv 0) (pv 2)) pe_int) pe_int (nomark _))) (fun _ _ _ _ _ => (pv 2))) pa_nil)))
      (C8.pss_cut (ps_if (PW.pt (pw_or (pt_cmpR (op_eqD hr.units) (pv 1) (pe_tup pa_nil) (nomark _)) (pw_or1 (pt_cmpR op_eq (pe_op op_mod (pe_op op_fdiv (pv 0) pe_int) pe_int) pe_int (nomark _))))) (pss_one (ps_set (i := 1) nd rfl (Or.inl rfl) (pe_tup (pa_cons (pe_op op_mod (pe_op op_fdiv (pv 0) pe_int) pe_int) pa_nil)))) pss_nil)
      (pss_cons (ps_set (i := 3) nd rfl (Or.inr rfl) (pe_op op_fdiv (pv 0) pe_int))
      (pss_cons (ps_set (i := 4) nd rfl (Or.inl rfl) (pe_callTy call_tuple_of (by rfl) T.z_tuple (by decide +kernel) (pa_cons (pe_lc (own := [("_law_one", 2)]) (g := gName 2) (by rfl) nd (pi_tup (pv 1)) (blkOk_by (own := [("_law_one", 2)]) (N := nm_law_meeting) (sc := defScope st_law_meeting) (by decide +kernel)) (fun _ _ _ _ _ => pg_name (i := 2) nd rfl (Or.inl rfl)) (fun _ _ _ _ _ => pts_one (pt_cmpR op_eq (pe_op op_and (pe_op op_shr (pe_op op_fdiv (pv 3) pe_int) (pe_op op_mul pe_int (pv 2))) pe_int) pe_int (nomark _))) (fun _ _ _ _ _ => (pv 2))) pa_nil)))
      (pss_one (ps_ret (pe_tup (pa_cons (pv 1) (pa_cons (pe_op op_add pe_int (pe_op op_mod (pv 3) (pe_callB call_len_seq (by rfl) T.z_len PySem.boot_len (pa_cons (pv 1) pa_nil)))) (pa_cons (pv 4) pa_nil)))))))))), ?_⟩
    -- people
    refine ⟨8, rfl, by decide, by decide, fun D0 nD => ?_⟩
    have k0 : Kx H (upd H D0 (.lst [])) := Kx.new nD
    refine lc_range (lo := 0) (n := 8) (fun i H1 => Kx H H1 ∧ H1 D0 = some (.lst (((((List.range 8).take i).filter fun o => decide (Builtin.bitAnd (n / 2 ^ o) 1 = 1)).map Int.ofNat).map V.int)))
      ⟨k0, upd_same⟩ ?_ ?_
    · rintro i H1 hi ⟨k1, h1⟩
      have eo : (0 : Int) + (i : Int) = Int.ofNat i := Int.zero_add _
      refine ⟨rfl, _, rfl, _, rfl, _, _, rfl, rfl, (by omega), _, _, rfl, rfl, rfl, _, rfl, ?_⟩
      have e1 := range_take (n := 8) hi
      have e2 : decide (V.int (Builtin.bitAnd (n / 2 ^ ((0 : Int) + (i : Int)).toNat) 1) = V.int 1) = decide (Builtin.bitAnd (n / 2 ^ i) 1 = 1) := by
        rw [eo]
        refine decide_eq_decide.mpr ⟨fun z => V.int.inj z, fun z => ?_⟩
        show V.int (Builtin.bitAnd (n / 2 ^ i) 1) = V.int 1
        rw [z]
      rw [e2]
      refine iteB (fun z => ?_) (fun z => ?_)
      · refine ⟨_, rfl, _, h1, ?_, k1.mut nD, ?_⟩
        · rw [List.length_map, List.length_map]
          refine lt80 (Nat.lt_of_le_of_lt (List.length_filter_le _ _) ?_)
          rw [List.length_take]
          omega
        · rw [upd_same, e1, filter_snoc, if_pos z, List.map_append, List.map_append, eo] <;> rfl
      · refine ⟨k1, ?_⟩
        rw [e1, filter_snoc, if_neg (by rw [z]; decide), List.append_nil]
        exact h1
    · rintro H1 ⟨k1, h1⟩
      have hri := rise_range fun o => decide (Builtin.bitAnd (n / 2 ^ o) 1 = 1)
      rw [show (List.range 8).take 8 = List.range 8 from rfl] at h1
      generalize ((List.range 8).filter fun o => decide (Builtin.bitAnd (n / 2 ^ o) 1 = 1)).map Int.ofNat = L at h1 hri
      refine ⟨D0, _, rfl, .inl ⟨sq_of h1, fun p np => ?_⟩⟩
      have k2 : Kx H1 (upd H1 p (.tup (L.map V.int))) := Kx.new np
      have hp2 : (upd H1 p (.tup (L.map V.int))) p = some (.tup (L.map V.int)) := upd_same
      generalize upd H1 p (.tup (L.map V.int)) = H2 at k2 hp2 ⊢
      refine ⟨fun σ H3 => ∃ (p3 : Addr) (M : List Int), σ = [some (.int n), some (.ref p3), none, none, none] ∧ Kx H H3 ∧ H3 p3 = some (.tup (M.map V.int)) ∧ Rise (-1) M ∧ M ≠ [], ?_, ?_⟩
      · -- people is empty, or the number says so
        refine ⟨_, rfl, by decide, fun z nz => ?_⟩
        have k3 : Kx H2 (upd H2 z (.tup [])) := Kx.new nz
        have k03 := (k1.trans k2).trans k3
        have hp3 := k3.tup hp2
        have hz3 : (upd H2 z (.tup [])) z = some (.tup (([] : List Int).map V.int)) := upd_same
        generalize upd H2 z (.tup []) = H3 at k3 k03 hp3 hz3 ⊢
        refine ⟨.tuple (L.map PyData.int), .tuple (([] : List Int).map PyData.int), .tup (st_of hp3) (ints_dp L), .tup (st_of hz3) (ints_dp []), tD_sh L, tD_sh [], _, rfl, ?_⟩
        rw [show PyData.eqv (.tuple (L.map PyData.int)) (.tuple (([] : List Int).map PyData.int)) = decide (L = []) from isD_eqv L []]
        have small : ∀ p4 : Addr, H3 p4 = none → ∃ (p3 : Addr) (M : List Int), [some (V.int n), some (.ref p4), none, none, none] = [some (V.int n), some (.ref p3), none, none, none] ∧ Kx H (upd H3 p4 (.tup [.int (n / 1280 % 8)])) ∧ (upd H3 p4 (.tup [.int (n / 1280 % 8)])) p3 = some (.tup (M.map V.int)) ∧ Rise (-1) M ∧ M ≠ [] := fun p4 np4 => by
          have b1 : 0 ≤ n / 1280 % 8 := Int.emod_nonneg _ (by decide)
          have b2 : n / 1280 % 8 < 8 := Int.emod_lt_of_pos _ (by decide)
          exact ⟨p4, [n / 1280 % 8], rfl, k03.trans (Kx.new np4), upd_same, ⟨by omega, by omega, trivial⟩, by simp⟩
        refine iteB (fun z => ?_) (fun z => ?_)
        · refine iteT ?_
          exact ⟨_, rfl, _, _, rfl, rfl, ⟨by decide, by decide⟩, _, _, rfl, rfl, (by show (0 : Int) < 8; decide), (by show 1 ≤ sizeLine; decide), small⟩
        · refine ⟨_, rfl, _, _, rfl, rfl, ⟨by decide, by decide⟩, _, _, rfl, rfl, (by show (0 : Int) < 5; decide), rfl, _, rfl, ite2 (fun _ => ?_) (fun _ => ?_)⟩
          · exact ⟨_, rfl, _, _, rfl, rfl, ⟨by decide, by decide⟩, _, _, rfl, rfl, (by show (0 : Int) < 8; decide), (by show 1 ≤ sizeLine; decide), small⟩
          · exact ⟨p, L, rfl, k03, hp3, hri, of_decide_eq_false z⟩
      · rintro σ H3 ⟨p3, M, rfl, k3, hp3, hM, hne⟩
        refine ⟨_, rfl, _, _, rfl, rfl, ⟨by decide, by decide⟩, ?_⟩
        -- needed
        refine ⟨_, rfl, p3, rfl, ⟨_, st_of hp3⟩, fun D1 nD1 => ?_⟩
        have k4 : Kx H3 (upd H3 D1 (.lst [])) := Kx.new nD1
        have h8 := rise_len8 hM
        refine lc_tup (K := K) (a := p3) (xs := M.map V.int) (fun j H4 => Kx H3 H4 ∧ H4 D1 = some (.lst (((M.take j).filter fun x => decide (Builtin.bitAnd (n / 10240 / 8 / 2 ^ (2 * x).toNat) 3 = 3)).map V.int)))
          ⟨k4, upd_same⟩ (fun j H4 _ h => h.1.t (st_of hp3)) ?_ ?_
        · rintro j y H4 hj ⟨k5, hD⟩
          obtain ⟨x, hx, rfl⟩ : ∃ x, M[j]? = some x ∧ V.int x = y := by
            rw [List.getElem?_map] at hj
            exact Option.map_eq_some_iff.mp hj
          have e1 : M.take (j + 1) = M.take j ++ [x] := by rw [List.take_add_one, hx] <;> rfl
          have x0 : 0 ≤ x := rise_lo (by omega) hM x (List.mem_of_getElem? hx)
          have x7 := (rise_at hM hx).2
          refine ⟨rfl, _, rfl, _, _, rfl, rfl, ⟨by decide, by decide⟩, _, rfl, _, _, rfl, rfl, .inl ⟨by decide, by decide⟩, _, _, rfl, rfl, (by omega), _, _, rfl, rfl, rfl, _, rfl, ?_⟩
          have e2 : decide (V.int (Builtin.bitAnd (n / 10240 / 8 / 2 ^ (2 * x).toNat) 3) = V.int 3) = decide (Builtin.bitAnd (n / 10240 / 8 / 2 ^ (2 * x).toNat) 3 = 3) := by
            refine decide_eq_decide.mpr ⟨fun z => V.int.inj z, fun z => ?_⟩
            show V.int (Builtin.bitAnd (n / 10240 / 8 / 2 ^ (2 * x).toNat) 3) = V.int 3
            rw [z]
          rw [e2]
          refine iteB (fun z => ?_) (fun z => ?_)
          · refine ⟨_, rfl, _, hD, ?_, k5.mut nD1, ?_⟩
            · rw [List.length_map]
              refine lt80 (Nat.lt_of_le_of_lt (List.length_filter_le _ _) ?_)
              rw [List.length_take]
              omega
            · rw [upd_same, e1, filter_snoc, if_pos z, List.map_append] <;> rfl
          · refine ⟨k5, ?_⟩
            rw [e1, filter_snoc, if_neg (by rw [z]; decide), List.append_nil]
            exact hD
        · rintro H4 ⟨k5, hD⟩
          rw [List.length_map, List.take_length] at hD
          refine ⟨D1, _, rfl, .inl ⟨sq_of hD, fun t nt => ?_⟩⟩
          have k6 : Kx H4 (upd H4 t (.tup ((M.filter fun x => decide (Builtin.bitAnd (n / 10240 / 8 / 2 ^ (2 * x).toNat) 3 = 3)).map V.int))) := Kx.new nt
          have ht6 : (upd H4 t (.tup ((M.filter fun x => decide (Builtin.bitAnd (n / 10240 / 8 / 2 ^ (2 * x).toNat) 3 = 3)).map V.int))) t = some (.tup ((M.filter fun x => decide (Builtin.bitAnd (n / 10240 / 8 / 2 ^ (2 * x).toNat) 3 = 3)).map V.int)) := upd_same
          generalize upd H4 t (.tup ((M.filter fun x => decide (Builtin.bitAnd (n / 10240 / 8 / 2 ^ (2 * x).toNat) 3 = 3)).map V.int)) = H6 at k6 ht6 ⊢
          have hp6 := k6.tup (k5.tup hp3)
          have len : 0 < M.length := List.length_pos_iff.mpr hne
          refine ⟨_, rfl, _, rfl, _, rfl, p3, _, rfl, .inr (st_of hp6), ?_⟩
          rw [List.length_map]
          have d1 : 0 ≤ n / 10240 % (M.length : Int) := Int.emod_nonneg _ (by omega)
          have d2 : n / 10240 % (M.length : Int) < (M.length : Int) := Int.emod_lt_of_pos _ (by omega)
          refine ⟨_, _, rfl, rfl, (by omega), _, _, rfl, rfl, _, rfl, (by show 3 ≤ sizeLine; decide), fun r nr => ?_⟩
          have k7 : Kx H6 (upd H6 r (.tup [.ref p3, .int (1 + n / 10240 % (M.length : Int)), .ref t])) := Kx.new nr
          refine q _ r ⟨M, 1 + n / 10240 % (M.length : Int), M.filter fun x => decide (Builtin.bitAnd (n / 10240 / 8 / 2 ^ (2 * x).toNat) 3 = 3)⟩ (((k3.trans k5).trans k6).trans k7) ⟨p3, t, st_of upd_same, st_of (k7.tup hp6), st_of (k7.tup ht6)⟩ ⟨hM, rise_sub _ hM, by show 1 ≤ 1 + n / 10240 % (M.length : Int); omega, by show 1 + n / 10240 % (M.length : Int) ≤ (M.length : Int); omega, fun x hx => (List.mem_filter.mp hx).1⟩
end
end CH
end

section
set_option Elab.async false
set_option linter.all false
set_option maxRecDepth 100000
set_option maxHeartbeats 4000000
namespace CH
open PySem PySem.Spec PyProof.Rows L2
open GxR (TabB TabG Tabbed)
section
variable {P : Program} {w : World} {K : PySem.W.Frag} {mg : Str → Option Value} {base : Heap} {c aA cc cm : Addr}
abbrev st_law_in : Stmt := top 62
abbrev nm_law_in : List Str := ["_law_some", "_law_more", "_law_hour"]
theorem sc_law_in : FnScope nm_law_in ["_law_some", "_law_more"] (defScope st_law_in) := C8.fnScope_by (by decide +kernel)
def sp_law_in (K : PySem.W.Frag) : Sp := fun vs H Q _ => ∃ (a b : Addr) (xs ys : List Int), vs = [.ref a, .ref b] ∧ SqL K H a (xs.map V.int) ∧ SqL K H b (ys.map V.int) ∧ xs.length ≤ 4000 ∧ ∀ H' : Hp, Kx H H' → Q (.bl (xs.all fun x => decide (x ∈ ys))) H'
theorem ok_law_in (D : DefT K mg "_law_in" st_law_in c) (T : Tx K mg aA) : C8.Cal P w K mg base 1 "_law_in" (sp_law_in K) [] := by
  refine cal_of D sc_law_in (fun _ _ _ _ _ _ us hl => match us, hl with | [_, _], _ => rfl) (fun vs H Q E h => ?_) (fun fa A outer s H vs Q E hr h => ?_)
  · obtain ⟨a, b, xs, ys, rfl, _⟩ := h
    rfl
  · obtain ⟨a, b, xs, ys, rfl, ha, hb, h4, q⟩ := h
    have nd := sc_law_in.nd
    refine ⟨_, (pss_one (ps_ret (pe_callB (cr_all rfl) (by rfl) T.z_all (by decide +kernel) (pa_cons (pe_lc (own := [("_law_hour", 2)]) (g := gName 2) (tt := tYes) (by rfl) nd (pi_list (pv 0)) (blkOk_by (own := [("_law_hour", 2)]) (N := nm_law_in) (sc := defScope st_law_in) (by decide +kernel)) (fun _ _ _ _ _ => pg_name (i := 2) nd rfl (Or.inl rfl)) (fun _ _ _ _ _ => pts_nil) (fun _ _ _ _ _ => (pe_cmpR (show OpR _ (compareOp .In) (rIn K false) from op_in_seq) (pv 2) (pv 1) (by rfl)))) pa_nil)))), ?_⟩
    refine ⟨_, rfl, a, rfl, ⟨_, ha⟩, fun D1 nD1 => ?_⟩
    refine lc_bools (fun x => decide (x ∈ ys)) ha nD1 h4 (fun x => rfl) (fun x H3 hx k3 Q' hq => ?_) fun H3 k3 hD1 => ?_
    · refine ⟨_, rfl, _, rfl, b, _, rfl, .inl (k3.l hb), rfl, flat_int _, ?_⟩
      rw [if_neg Bool.false_ne_true, inV_int]
      exact hq H3 (Kx.refl H3)
    refine ⟨D1, _, rfl, sq_of hD1, ?_⟩
    rw [all_map]
    exact q H3 k3
end
end CH
end

section
set_option Elab.async false
set_option linter.all false
set_option maxRecDepth 100000
set_option maxHeartbeats 4000000
namespace CH
open PySem PySem.Spec PyProof.Rows L2
open GxR (TabB TabG Tabbed)
section
variable {P : Program} {w : World} {K : PySem.W.Frag} {mg : Str → Option Value} {base : Heap} {c aA cc cm : Addr}
abbrev st_law_jump : Stmt := top 57
abbrev nm_law_jump : List Str := ["_law_old", "_law_hour"]
theorem sc_law_jump : FnScope nm_law_jump ["_law_old", "_law_hour"] (defScope st_law_jump) := C8.fnScope_by (by decide +kernel)
def sp_law_jump : Sp := fun vs H Q _ => ∃ (x : Option Int) (h : Int), vs = [oldV x, .int h] ∧ Q (.int (jumpZ x h)) H
theorem ok_law_jump (D : DefT K mg "_law_jump" st_law_jump c) (T : Tx K mg aA) : C8.Cal P w K mg base 1 "_law_jump" sp_law_jump [] := by
  refine cal_of D sc_law_jump (fun _ _ _ _ _ _ us hl => match us, hl with | [_, _], _ => rfl) (fun vs H Q E h => ?_) (fun fa A outer s H vs Q E hr h => ?_)
  · obtain ⟨x, h, rfl, _⟩ := h
    rfl
  · obtain ⟨x, h, rfl, q⟩ := h
    have nd := sc_law_jump.nd
    refine ⟨_, (pss_one (ps_ret (pe_ifExp (pt_cmp (pc_isN (pv 0))) pe_int (pe_callB call_abs (by rfl) T.z_abs (by decide +kernel) (pa_cons (pe_op op_sub (pv 1) (pv 0)) pa_nil))))), ?_⟩
    cases x with
    | none => exact ⟨_, rfl, _, rfl, iteT q⟩
    | some i => exact ⟨_, rfl, _, rfl, iteF ⟨_, rfl, _, rfl, _, _, rfl, rfl, _, rfl, q⟩⟩
abbrev st_law_cans : Stmt := top 58
abbrev nm_law_cans : List Str := ["_law_words_here", "_law_meetings_here", "_law_answers_here", "_law_meeting_here"]
theorem sc_law_cans : FnScope nm_law_cans ["_law_words_here", "_law_meetings_here"] (defScope st_law_cans) := C8.fnScope_by (by decide +kernel)
def sp_law_cans (K : PySem.W.Frag) : Sp := fun vs H Q _ => ∃ (l a : Addr) (ws : List Wd) (ms : List Mt), vs = [.ref l, .ref a] ∧ WsAt K H l ws ∧ ws.length ≤ 200 ∧ (∀ x ∈ ws, x.ok) ∧ MsAt K H a ms ∧ ms.length ≤ 1000 ∧ (∀ m ∈ ms, m.ok) ∧
  ∀ (H' : Hp) (r : Addr), Kx H H' → H r = none → LsAt K H' r (ms.map fun m => hoursL m ["yes"] (ansF ws)) → Q (.ref r) H'
theorem ok_law_cans (D : DefT K mg "_law_cans" st_law_cans c) (T : Tx K mg aA) (f__law_answers : C8.Cal P w K mg base 1 "_law_answers" (sp_law_answers K) []) (f__law_hours : C8.Cal P w K mg base 1 "_law_hours" (sp_law_hours K) []) : C8.Cal P w K mg base 2 "_law_cans" (sp_law_cans K) [] := by
  refine cal_of D sc_law_cans (fun _ _ _ _ _ _ us hl => match us, hl with | [_, _], _ => rfl) (fun vs H Q E h => ?_) (fun fa A outer s H vs Q E hr h => ?_)
  · obtain ⟨l, a, ws, ms, rfl, _⟩ := h
    rfl
  · obtain ⟨l, a, ws, ms, rfl, hw, h200, hok, hm, hml, hmok, q⟩ := h
    have nd := sc_law_cans.nd
    have hu := hu_of hr
    refine ⟨_, (pss_cons (ps_set (i := 2) nd rfl (Or.inr rfl) (C8.pe_c f__law_answers hr (by decide) (by rfl) (pa_cons (pv 0) pa_nil)))
      (pss_one (ps_ret (pe_lc (own := [("_law_meeting_here", 3)]) (g := gName 3) (tt := tYes) (by rfl) nd (pi_list (pv 1)) (blkOk_by (own := [("_law_meeting_here", 3)]) (N := nm_law_cans) (sc := defScope st_law_cans) (by decide +kernel)) (fun _ _ _ _ _ => pg_name (i := 3) nd rfl (Or.inl rfl)) (fun _ _ _ _ _ => pts_nil) (fun _ _ _ _ _ => (C8.pe_c f__law_hours hr (by decide) (by rfl) (pa_cons (pv 2) (pa_cons (pv 3) (pa_cons (pe_tup (pa_cons pe_str pa_nil)) pa_nil))))))))), ?_⟩
    refine ⟨_, rfl, l, ws, rfl, hw, h200, hok, fun H1 d kvs k1 nd1 hd1 ha1 => ?_⟩
    obtain ⟨as, hl2, hm2⟩ := hm
    have len := paired_len hm2
    refine ⟨_, rfl, a, rfl, ⟨_, k1.l hl2⟩, fun D1 nD1 => ?_⟩
    refine lc_list (K := K) (a := a) (xs := as.map V.ref) (fun j H3 => Kx H1 H3 ∧ ∃ rs : List Addr, H3 D1 = some (.lst (rs.map V.ref)) ∧ Paired (fun r ns => H3 r = some (.lst (ns.map V.int))) rs ((ms.take j).map fun m => hoursL m ["yes"] (ansF ws)) ∧ ∀ r ∈ rs, r ≠ D1)
      ⟨Kx.new nD1, [], upd_same, .nil, fun r hr => absurd hr (by simp)⟩ (fun j H3 _ h => (k1.trans h.1).l hl2) ?_ ?_
    · rintro j y H3 hj ⟨k3, rs, hD, hrs, hne⟩
      obtain ⟨t, ht, rfl⟩ : ∃ t, as[j]? = some t ∧ V.ref t = y := by
        rw [List.getElem?_map] at hj
        exact Option.map_eq_some_iff.mp hj
      obtain ⟨m, hmx, hmt⟩ := paired_at hm2 ht
      have hj2 : j < as.length := (List.getElem?_eq_some_iff.mp ht).1
      have e1 : ms.take (j + 1) = ms.take j ++ [m] := by rw [List.take_add_one, hmx] <;> rfl
      have lrs := paired_len hrs
      rw [List.length_map, List.length_take] at lrs
      refine ⟨rfl, yesT ?_⟩
      refine ⟨_, rfl, _, rfl, (by show 1 ≤ sizeLine; decide), fun g ng => ?_⟩
      have k4 : Kx H3 (upd H3 g (.tup [.str "yes"])) := Kx.new ng
      have hg : (upd H3 g (.tup [.str "yes"])) g = some (.tup [.str "yes"]) := upd_same
      generalize upd H3 g (.tup [.str "yes"]) = H4 at k4 hg ⊢
      have k14 := (k1.trans k3).trans k4
      refine ⟨d, t, g, m, kvs, ansW ws, ["yes"], rfl, hmt.k k14, hmok m (List.mem_of_getElem? hmx), (k3.trans k4).dt hd1, ha1, st_of hg, fun H5 r k5 nr hr5 => ?_⟩
      have hr5 : H5 r = some (.lst ((hoursL m ["yes"] (ansF ws)).map V.int)) := hr5
      have hD5 := (k4.trans k5).lst hD
      have nrD : r ≠ D1 := fun z => by
        rw [z, k4.lst hD] at nr
        cases nr
      refine ⟨_, hD5, lt80 (by rw [List.length_map]; omega), ((k3.trans k4).trans k5).mut nD1, rs ++ [r], ?_, ?_, ?_⟩
      · rw [upd_same, List.map_append] <;> rfl
      · rw [e1, List.map_append]
        refine paired_snoc (paired_imp_mem (fun x hx ns z => ?_) hrs) (by rw [upd_ne nrD]; exact hr5)
        rw [upd_ne (hne x hx)]
        exact (k4.trans k5).lst z
      · intro x hx
        rcases List.mem_append.mp hx with hx | hx
        · exact hne x hx
        · rw [List.mem_singleton.mp hx]
          exact nrD
    · rintro H3 ⟨k3, rs, hD, hrs, hne⟩
      rw [List.length_map, len, List.take_length] at hrs
      exact q H3 D1 (k1.trans k3) (k1.f _ nD1) ⟨rs, sq_of hD, paired_imp (fun _ _ z => sq_of z) hrs⟩
abbrev st_law_tight : Stmt := top 60
abbrev nm_law_tight : List Str := ["_law_can", "_law_some", "_law_spots", "_law_at", "_law_hour"]
theorem sc_law_tight : FnScope nm_law_tight ["_law_can", "_law_some", "_law_spots"] (defScope st_law_tight) := C8.fnScope_by (by decide +kernel)
def sp_law_tight (K : PySem.W.Frag) : Sp := fun vs H Q _ => ∃ (c a b : Addr) (cans : List (List Int)) (some_ spots : List Int), vs = [.ref c, .ref a, .ref b] ∧ LsAt K H c cans ∧ (∀ ns ∈ cans, ns.length ≤ 4000) ∧ SqL K H a (some_.map V.int) ∧ SqL K H b (spots.map V.int) ∧ some_.length ≤ 4000 ∧ spots.length ≤ 4000 ∧
  ∀ H' : Hp, Kx H H' → Q (.bl (tightB cans some_ spots)) H'
theorem ok_law_tight (D : DefT K mg "_law_tight" st_law_tight c) (T : Tx K mg aA) : C8.Cal P w K mg base 1 "_law_tight" (sp_law_tight K) [] := by
  refine cal_of D sc_law_tight (fun _ _ _ _ _ _ us hl => match us, hl with | [_, _, _], _ => rfl) (fun vs H Q E h => ?_) (fun fa A outer s H vs Q E hr h => ?_)
  · obtain ⟨c, a, b, cans, some_, spots, rfl, _⟩ := h
    rfl
  · obtain ⟨c, a, b, cans, some_, spots, rfl, ⟨rs, hc, hrs⟩, hcl, ha, hb, l1, l2, q⟩ := h
    have nd := sc_law_tight.nd
    have hu := hu_of hr
    refine ⟨_, (pss_cons (ps_if (PW.pt (pw_or (pt_cmpR op_lt (pe_lenSetG (by rfl) T.z_len (by rfl) T.z_set (pv 1)) (pe_callB call_len_seq (by rfl) T.z_len PySem.boot_len (pa_cons (pv 1) pa_nil)) (nomark _)) (pw_or (pt_val (pe_callB (cr_any rfl) (by rfl) T.z_any (by decide +kernel) (pa_cons (pe_lc (own := [("_law_at", 3)]) (g := gName 3) (tt := tYes) (by rfl) nd (pi_list (pv 1)) (blkOk_by (own := [("_law_at", 3)]) (N := nm_law_tight) (sc := defScope st_law_tight) (by decide +kernel)) (fun _ _ _ _ _ => pg_name (i := 3) nd rfl (Or.inl rfl)) (fun _ _ _ _ _ => pts_nil) (fun _ _ _ _ _ => (pe_not (pe_chain op_le op_lt pe_int (pv 3) (pe_callB (show CallR _ (.builtin "len") (rLenK K) from call_len_seq) (by rfl) T.z_len PySem.boot_len (pa_cons (pv 0) pa_nil)))))) pa_nil))) (pw_or1 (pt_cmpR op_ge (pe_lenSetG (by rfl) T.z_len (by rfl) T.z_set (pv 2)) (pe_callB call_len_seq (by rfl) T.z_len PySem.boot_len (pa_cons (pv 1) pa_nil)) (nomark _)))))) (pss_one (ps_ret pe_bl)) pss_nil)
      (pss_one (ps_ret (pe_callB (cr_all rfl) (by rfl) T.z_all (by decide +kernel) (pa_cons (pe_lc (own := [("_law_at", 3)]) (g := gName 3) (tt := tYes) (by rfl) nd (pi_list (pv 1)) (blkOk_by (own := [("_law_at", 3)]) (N := nm_law_tight) (sc := defScope st_law_tight) (by decide +kernel)) (fun _ _ _ _ _ => pg_name (i := 3) nd rfl (Or.inl rfl)) (fun _ _ _ _ _ => pts_nil) (fun _ _ _ _ _ => (pe_callB (show CallR _ (.builtin "all") (rAll K) from cr_all rfl) (by rfl) T.z_all (by decide +kernel) (pa_cons (pe_lc (own := [("_law_hour", 4)]) (g := gName 4) (tt := tYes) (by rfl) nd (show PI _ _ _ (iList K _) from pi_list (pe_ix (show IxR _ (rIxL K) from ix_list) (pv 0) (pv 3) (fun _ _ => rfl))) (blkOk_by (own := [("_law_hour", 4)]) (N := nm_law_tight) (by kernel_rfl)) (fun _ _ _ _ _ => pg_name (i := 4) nd rfl (Or.inl rfl)) (fun _ _ _ _ _ => pts_nil) (fun _ _ _ _ _ => (pe_cmpR (show OpR _ (compareOp .In) (rIn K false) from op_in_seq) (pv 4) (pv 2) (by rfl)))) pa_nil)))) pa_nil))))), ?_⟩
    have len := paired_len hrs
    have dl := dis_le some_
    have de := dis_eq some_
    have bad : ∀ H', Kx H H' → tightB cans some_ spots = false → Q (.bl false) H' := fun H' k e => by
      have q0 := q H' k
      rw [e] at q0
      exact q0
    refine ⟨_, rfl, a, some_, rfl, ha, l1, ?_⟩
    refine ⟨_, rfl, a, _, rfl, .inl ha, _, _, rfl, rfl, _, rfl, ?_⟩
    rw [List.length_map]
    by_cases dn : some_.Nodup
    case neg =>
      rw [show decide ((dis some_ : Int) < (some_.length : Int)) = true from decide_eq_true (by
        have : dis some_ ≠ some_.length := fun z => dn (de.mp z)
        omega)]
      refine iteT (iteT (bad H (Kx.refl H) ?_))
      unfold tightB
      rw [decide_eq_false dn]
      rfl
    rw [show decide ((dis some_ : Int) < (some_.length : Int)) = false from decide_eq_false (by
      have := de.mpr dn
      omega)]
    refine iteF ?_
    refine ⟨_, rfl, a, rfl, ⟨_, ha⟩, fun D1 nD1 => ?_⟩
    refine lc_bools (fun x => !decide (0 ≤ x ∧ x < (cans.length : Int))) ha nD1 l1 (fun x => rfl) (fun x H3 hx k3 Q' hq => ?_) fun H3 k3 hD1 => ?_
    · refine ⟨_, rfl, _, _, rfl, rfl, _, rfl, ?_⟩
      by_cases x0 : 0 ≤ x
      · rw [decide_eq_true x0]
        refine iteT ⟨_, rfl, c, _, rfl, .inl (k3.l hc), _, _, rfl, rfl, _, rfl, ?_⟩
        rw [List.length_map, len]
        have z := hq H3 (Kx.refl H3)
        rw [show decide (0 ≤ x ∧ x < (cans.length : Int)) = decide (x < (cans.length : Int)) from decide_eq_decide.mpr ⟨fun y => y.2, fun y => ⟨x0, y⟩⟩] at z
        exact z
      · rw [decide_eq_false x0]
        refine iteF ⟨_, rfl, ?_⟩
        have z := hq H3 (Kx.refl H3)
        rw [show decide (0 ≤ x ∧ x < (cans.length : Int)) = false from decide_eq_false fun y => x0 y.1] at z
        exact z
    refine ⟨D1, _, rfl, sq_of hD1, _, rfl, ?_⟩
    rw [any_map]
    by_cases b1 : (some_.any fun x => !decide (0 ≤ x ∧ x < (cans.length : Int))) = true
    · rw [b1]
      refine iteT (iteT (bad H3 k3 ?_))
      obtain ⟨x, hx, z⟩ := List.any_eq_true.mp b1
      have : (some_.all fun x => decide (0 ≤ x ∧ x < (cans.length : Int))) = false := by
        rw [List.all_eq_false]
        have z2 : ¬ (0 ≤ x ∧ x < (cans.length : Int)) := fun y => by rw [decide_eq_true y] at z; cases z
        exact ⟨x, hx, by rw [decide_eq_false z2]; exact Bool.false_ne_true⟩
      unfold tightB
      rw [this, Bool.and_false, Bool.false_and, Bool.false_and]
    rw [Bool.eq_false_iff.mpr b1]
    refine iteF ?_
    have allr : ∀ x ∈ some_, 0 ≤ x ∧ x < (cans.length : Int) := fun x hx => Classical.byContradiction fun z => b1 (List.any_eq_true.mpr ⟨x, hx, by rw [decide_eq_false z]; rfl⟩)
    have allr' : (some_.all fun x => decide (0 ≤ x ∧ x < (cans.length : Int))) = true := List.all_eq_true.mpr fun x hx => decide_eq_true (allr x hx)
    refine ⟨_, rfl, b, spots, rfl, k3.l hb, l2, ?_⟩
    refine ⟨_, rfl, a, _, rfl, .inl (k3.l ha), _, _, rfl, rfl, _, rfl, ?_⟩
    rw [List.length_map]
    by_cases b2 : dis spots < some_.length
    case neg =>
      rw [show decide ((some_.length : Int) ≤ (dis spots : Int)) = true from decide_eq_true (by omega)]
      refine iteT (bad H3 k3 ?_)
      unfold tightB
      rw [decide_eq_false b2, Bool.and_false, Bool.false_and]
    rw [show decide ((some_.length : Int) ≤ (dis spots : Int)) = false from decide_eq_false (by omega)]
    refine iteF ?_
    have et : tightB cans some_ spots = some_.all fun x => ((cans.getD x.toNat []).all fun h => decide (h ∈ spots)) := by
      unfold tightB
      rw [decide_eq_true dn, allr', decide_eq_true b2]
      rfl
    rw [et] at q
    have ha3 := k3.l ha
    refine ⟨_, rfl, a, rfl, ⟨_, ha3⟩, fun D2 nD2 => ?_⟩
    refine lc_bools (fun x => (cans.getD x.toNat []).all fun h => decide (h ∈ spots)) ha3 nD2 l1 (fun x => rfl) (fun x H4 hx k4 Q' hq => ?_) fun H4 k4 hD2 => ?_
    · have hc4 := (k3.trans k4).l hc
      obtain ⟨x0, x1⟩ := allr x hx
      have ex : x = ((x.toNat : Nat) : Int) := (Int.toNat_of_nonneg x0).symm
      have lx : x.toNat < cans.length := by omega
      have lr : x.toNat < rs.length := by omega
      obtain ⟨ns, hns, hsq⟩ := paired_at hrs (List.getElem?_eq_getElem lr)
      have eg : cans.getD x.toNat [] = ns := by rw [List.getD_eq_getElem?_getD, hns] <;> rfl
      have hat : atI (rs.map V.ref) x = some (.ref rs[x.toNat]) := by
        have z := atI_nat (xs := rs.map V.ref) (j := x.toNat) (v := .ref rs[x.toNat]) (by rw [List.getElem?_map, List.getElem?_eq_getElem lr] <;> rfl)
        rw [← ex] at z
        exact z
      have hns4 := (k3.trans k4).l hsq
      rw [eg] at hq
      refine ⟨_, rfl, _, rfl, c, _, x, _, rfl, rfl, hc4, hat, _, rfl, ⟨_, hns4⟩, fun D3 nD3 => ?_⟩
      refine lc_bools (fun h => decide (h ∈ spots)) hns4 nD3 (hcl ns (List.mem_of_getElem? hns)) (fun x => rfl) (fun y H5 hy k5 Q2 hq2 => ?_) fun H5 k5 hD3 => ?_
      · refine ⟨_, rfl, _, rfl, b, _, rfl, .inl (((k3.trans k4).trans k5).l hb), rfl, flat_int _, ?_⟩
        rw [if_neg Bool.false_ne_true, inV_int]
        exact hq2 H5 (Kx.refl H5)
      refine ⟨D3, _, rfl, sq_of hD3, ?_⟩
      rw [all_map]
      exact hq H5 k5
    refine ⟨D2, _, rfl, sq_of hD2, ?_⟩
    rw [all_map]
    exact q H4 (k3.trans k4)
end
end CH
end

section
set_option Elab.async false
set_option linter.all false
set_option maxRecDepth 100000
set_option maxHeartbeats 4000000
namespace CH
open PySem PySem.Spec PyProof.Rows L2
open GxR (TabB TabG Tabbed)
/-- the entries, one put in -/
def putQ (qs : List (Addr × Wd)) (q : Addr × Wd) : List (Addr × Wd) := if (qs.any fun p => decide (kW p.2 = kW q.2)) = true then qs.map fun p => if kW p.2 = kW q.2 then q else p else qs ++ [q]
theorem putQ_ent (qs : List (Addr × Wd)) (q : Addr × Wd) : putK (qs.map entW) (kW q.2) (.ref q.1) = (putQ qs q).map entW := by
  unfold putK putQ
  have e : ((qs.map entW).any fun kv => decide (kv.1 = kW q.2)) = qs.any fun p => decide (kW p.2 = kW q.2) := by
    rw [List.any_map]
    rfl
  rw [e]
  by_cases h : (qs.any fun p => decide (kW p.2 = kW q.2)) = true
  · rw [if_pos h, if_pos h, List.map_map, List.map_map]
    refine List.map_congr_left fun p _ => ?_
    show (if kW p.2 = kW q.2 then (kW p.2, V.ref q.1) else entW p) = entW (if kW p.2 = kW q.2 then q else p)
    by_cases z : kW p.2 = kW q.2
    · rw [if_pos z, if_pos z, z] <;> rfl
    · rw [if_neg z, if_neg z]
  · rw [if_neg h, if_neg h, List.map_append] <;> rfl
theorem putQ_mem {qs : List (Addr × Wd)} {q p : Addr × Wd} (h : p ∈ putQ qs q) : p = q ∨ p ∈ qs := by
  unfold putQ at h
  split at h
  · obtain ⟨p0, h0, e⟩ := List.mem_map.mp h
    split at e
    · exact .inl e.symm
    · exact .inr (e ▸ h0)
  · rcases List.mem_append.mp h with h | h
    · exact .inr h
    · exact .inl (List.mem_singleton.mp h)
theorem putQ_len (qs : List (Addr × Wd)) (q : Addr × Wd) : (putQ qs q).length ≤ qs.length + 1 := by
  unfold putQ
  split
  · rw [List.length_map]
    omega
  · rw [List.length_append]
    exact Nat.le_refl _
theorem putQ_diff {qs : List (Addr × Wd)} {q : Addr × Wd} (h : qs.Pairwise fun a b => kW a.2 ≠ kW b.2) : (putQ qs q).Pairwise fun a b => kW a.2 ≠ kW b.2 := by
  unfold putQ
  split
  · rw [List.pairwise_map]
    refine h.imp fun {a b} z => ?_
    by_cases e1 : kW a.2 = kW q.2
    · by_cases e2 : kW b.2 = kW q.2
      · exact absurd (e1.trans e2.symm) z
      · rw [if_pos e1, if_neg e2]
        exact fun y => e2 y.symm
    · by_cases e2 : kW b.2 = kW q.2
      · rw [if_neg e1, if_pos e2]
        exact e1
      · rw [if_neg e1, if_neg e2]
        exact z
  · rename_i hn
    refine List.pairwise_append.mpr ⟨h, List.pairwise_singleton _ _, fun a ha b hb => ?_⟩
    rw [List.mem_singleton.mp hb]
    intro z
    exact hn (List.any_eq_true.mpr ⟨a, ha, decide_eq_true z⟩)
theorem Bits.neg {i : Int} {n : Nat} (h : Bits i n) : Bits (-i) n := by
  unfold Bits at h ⊢
  rw [Int.natAbs_neg]
  exact h
theorem bits_sum {n : Nat} : ∀ {ns : List Int}, (∀ z ∈ ns, Bits z n) → Bits ns.sum (n + ns.length)
  | [], _ => by
    show (0 : Int).natAbs < 2 ^ (n + 0)
    exact Nat.pow_pos (by decide)
  | z :: ns, h => by
    have ih := bits_sum fun y hy => h y (List.mem_cons_of_mem _ hy)
    rw [List.sum_cons]
    exact (h z List.mem_cons_self).add ih (by rw [List.length_cons]; omega) (by rw [List.length_cons]; omega)
theorem abs_nn (i : Int) : 0 ≤ (if i < 0 then -i else i) := by split <;> omega
theorem bits_abs {i : Int} {n : Nat} (h : Bits i n) : Bits (if i < 0 then -i else i) n := by
  split
  · exact h.neg
  · exact h
theorem valV_of {qs : List (Addr × Wd)} {q : Addr × Wd} (h : qs.Pairwise fun a b => kW a.2 ≠ kW b.2) (hq : q ∈ qs) : valV (qs.map entW) (kW q.2) = some (.ref q.1) := by
  rcases valV_entW (w := q.2) (qs := qs) with ⟨q', h', e, v⟩ | ⟨n, _⟩
  · have z : q' = q := by
      clear v
      induction qs with
      | nil => exact absurd hq (by simp)
      | cons x qs ih =>
        obtain ⟨h3, h4⟩ := List.pairwise_cons.mp h
        rcases List.mem_cons.mp hq with ea | ea
        · rcases List.mem_cons.mp h' with eb | eb
          · rw [ea, eb]
          · exact absurd (ea ▸ e).symm (h3 q' eb)
        · rcases List.mem_cons.mp h' with eb | eb
          · exact absurd (eb ▸ e) (h3 q ea)
          · exact ih h4 ea eb
    rw [v, z]
  · exact absurd rfl (n q hq)
theorem tat_of {H : Hp} : ∀ {qs : List (Addr × Wd)}, PAt H qs → TAt H (qs.map (·.1)) (qs.map (·.2))
  | [], _ => .nil
  | q :: qs, h => .cons (h q List.mem_cons_self) (tat_of fun p hp => h p (List.mem_cons_of_mem _ hp))
theorem lc_keysT {d : Addr} {o : Obj} {kvs : List (List Key × V)} {g : TG} {tt : TT} {te : TE} {vs : List Nat} {σ : L2.St} {H1 : Hp} {D : Addr} {Qd : Hp → Prop} (Pv : Nat → Hp → Prop) (h0 : Pv 0 (upd H1 D (.lst []))) (hl : ∀ i H, i ≤ kvs.length → Pv i H → H d = some (.frz o (.dT kvs)))
    (hs : ∀ i k v q H, kvs[i]? = some (k, v) → H q = some (.tup (k.map kV)) → Pv i H → g (.ref q) (wipe σ vs) H fun σ2 H2 => wipe σ2 vs = wipe σ vs ∧ tt σ2 H2 fun b H3 =>
      if b = true then te σ2 H3 fun y H4 => ∃ acc, H4 D = some (.lst acc) ∧ acc.length < sizeLine ∧ Pv (i + 1) (upd H4 D (.lst (acc ++ [y]))) else Pv (i + 1) H3) (hd : ∀ H, Pv kvs.length H → Qd H) :
    ∃ W : Nat → Nat → Hp → Prop, (∃ m, W 0 m (upd H1 D (.lst []))) ∧ ∀ i m H, W i m H →
      ((Itkt d o kvs).stop i H ∧ Qd H) ∨ ((Itkt d o kvs).go i H ∧ ∃ Nx : Hp → Prop, (∀ H', Nx H' → ∃ m', m' < m ∧ W (i + 1) m' H') ∧ ∀ x H', (Itkt d o kvs).yld i H x H' → g x (wipe σ vs) H' fun σ2 H2 => wipe σ2 vs = wipe σ vs ∧ tt σ2 H2 fun b H3 =>
        if b = true then te σ2 H3 fun y H4 => ∃ acc, H4 D = some (.lst acc) ∧ acc.length < sizeLine ∧ Nx (upd H4 D (.lst (acc ++ [y]))) else Nx H3) := by
  refine ⟨fun i m H => m = kvs.length - i ∧ i ≤ kvs.length ∧ Pv i H, ⟨kvs.length, by simp, Nat.zero_le _, h0⟩, ?_⟩
  rintro i m H ⟨rfl, hi, p⟩
  have q := hl i H hi p
  by_cases hlt : i < kvs.length
  · refine .inr ⟨⟨q, hlt⟩, Pv (i + 1), fun H' p' => ⟨kvs.length - (i + 1), by omega, rfl, hlt, p'⟩, fun x H' y => ?_⟩
    obtain ⟨e, k, v, b, e1, e2, e3⟩ := y
    subst e
    subst e2
    exact hs i k v b _ e1 e3 p
  · have e : i = kvs.length := by omega
    subst e
    exact .inl ⟨⟨q, Nat.le_refl _⟩, hd _ p⟩
theorem at_two (a b : Int) {i m : Int} (h0 : 0 ≤ i) (h1 : i < 2) (ha : 0 < a) (hb : 0 < b) (hA : a ≤ m) (hB : b ≤ m) : ∃ z, atI [V.int a, V.int b] i = some (.int z) ∧ 0 < z ∧ z ≤ m := by
  obtain ⟨v, hv, hm⟩ := at_small (xs := [V.int a, V.int b]) h0 h1
  rcases List.mem_cons.mp hm with rfl | hm
  · exact ⟨a, hv, ha, hA⟩
  · rcases List.mem_cons.mp hm with rfl | hm
    · exact ⟨b, hv, hb, hB⟩
    · exact (nomatch hm)
section
variable {P : Program} {w : World} {K : PySem.W.Frag} {mg : Str → Option Value} {base : Heap} {c aA cc cm : Addr}
abbrev st_law_words : Stmt := top 52
abbrev nm_law_words : List Str := ["_law_script", "_law_by", "_law_most", "_law_cells", "_law_whole", "_law_found", "_law_kind", "_law_at", "_law_cell", "_law_number_here", "_law_key", "_law_far", "_law_person", "_law_hour"]
theorem sc_law_words : FnScope nm_law_words ["_law_script", "_law_by", "_law_most"] (defScope st_law_words) := C8.fnScope_by (by decide +kernel)
def sp_law_words (K : PySem.W.Frag) : Sp := fun vs H Q _ => ∃ (l : Addr) (ns : List Int) (by_ : Int) (most : Nat), vs = [.ref l, .int by_, .int (most : Int)] ∧ SqL K H l (ns.map V.int) ∧ ns.length ≤ 63 ∧ (∀ z ∈ ns, Bits z 1100000) ∧ 0 ≤ by_ ∧ by_ ≤ 1000 ∧ most ≤ 200 ∧
  ∀ (H' : Hp) (r : Addr) (ts : List Addr) (ws : List Wd), Kx H H' → H r = none → H' r = some (.lst (ts.map V.ref)) → TAt H' ts ws → ws.length ≤ most → (∀ x ∈ ws, x.ok) → Diff ws → Q (.ref r) H'
theorem ok_law_words (D : DefT K mg "_law_words" st_law_words c) (T : Tx K mg aA) (f__law_number : C8.Cal P w K mg base 1 "_law_number" sp_law_number []) : C8.Cal P w K mg base 2 "_law_words" (sp_law_words K) [] := by
  refine cal_of D sc_law_words (fun _ _ _ _ _ _ us hl => match us, hl with | [_, _, _], _ => rfl) (fun vs H Q E h => ?_) (fun fa A outer s H vs Q E hr h => ?_)
  · obtain ⟨l, ns, by_, most, rfl, _⟩ := h
    rfl
  · obtain ⟨l, ns, by_, most, rfl, hl, h63, hbits, hb0, hb1, hm, q⟩ := h
    have nd := sc_law_words.nd
    have hu := hu_of hr
    refine ⟨_, (C8.pss_cut (ps_set (i := 3) nd rfl (Or.inl rfl) (pe_ifExp (pt_cmpR (op_neD hr.units) (pv 0) (pe_lst pa_nil) (nomark _)) (pe_slice sl_list (pv 0) po_none (po_some pe_int)) (pe_lst (pa_cons pe_int pa_nil))))
      (pss_cons (ps_asg (pe_tup (pa_cons (pe_op op_add (pe_callB call_abs (by rfl) T.z_abs (by decide +kernel) (pa_cons (pe_callB (cr_sum rfl) (by rfl) T.z_sum (by decide +kernel) (pa_cons (pv 3) pa_nil)) pa_nil)) (pe_op op_mul pe_int (pv 1))) (pa_cons pe_dnewT pa_nil))) (pg_tup (by rfl) (pgs_cons (pg_name (i := 4) nd rfl (Or.inl rfl)) (pgs_cons (pg_name (i := 5) nd rfl (Or.inr rfl)) pgs_nil))))
      (pss_cons (ps_set (i := 6) nd rfl (Or.inl rfl) (pe_op op_mod (pe_op op_fdiv (pv 4) pe_int) pe_int))
      (pss_cons (ps_for PassesOwn.never rfl (pi_range1 (by rfl) T.z_range (pa_cons (pe_op op_mod (pv 4) (pe_op op_add (pv 2) pe_int)) pa_nil)) (pg_name (i := 7) nd rfl (Or.inl rfl)) (pss_cons (ps_set (i := 8) nd rfl (Or.inl rfl) (pe_op op_add (pe_ix ix_list (pv 3) (pe_op op_mod (pe_op op_add (pv 7) (pv 1)) (pe_callB call_len_seq (by rfl) T.z_len PySem.boot_len (pa_cons (pv 3) pa_nil))) (fun _ _ => rfl)) (pe_op op_fdiv (pv 7) (pe_callB call_len_seq (by rfl) T.z_len PySem.boot_len (pa_cons (pv 3) pa_nil)))))
      (pss_cons (ps_set (i := 9) nd rfl (Or.inl rfl) (pe_op op_fdiv (pe_callB call_abs (by rfl) T.z_abs (by decide +kernel) (pa_cons (C8.pe_c f__law_number hr (by decide) (by rfl) (pa_cons (pv 8) (pa_cons (pe_op op_add (pv 7) (pv 1)) (pa_cons (pv 4) pa_nil)))) pa_nil)) pe_int))
      (pss_cons (ps_set (i := 10) nd rfl (Or.inl rfl) (pe_tup (pa_cons (pe_op op_add pe_int (pe_op op_mod (pv 9) (pe_ix ix_tup (pe_tup (pa_cons pe_int (pa_cons pe_int pa_nil))) (pe_op op_mod (pv 6) pe_int) (fun _ _ => rfl)))) (pa_cons (pe_op op_mod (pe_op op_fdiv (pv 9) pe_int) pe_int) pa_nil))))
      (pss_cons (ps_set (i := 11) nd rfl (Or.inl rfl) (pe_op op_fdiv (pv 9) pe_int))
      (pss_cons (ps_par (i := 12) (j := 13) (by rfl) nd rfl rfl (by decide) rfl rfl (pa_cons (pe_op op_mod (pv 11) (pe_ix ix_tup (pe_tup (pa_cons pe_int (pa_cons pe_int pa_nil))) (pe_op op_fdiv (pv 6) pe_int) (fun _ _ => rfl))) (pa_cons (pe_op op_mod (pe_op op_fdiv (pv 11) pe_int) (pe_ix ix_tup (pe_tup (pa_cons pe_int (pa_cons pe_int pa_nil))) (pe_op op_fdiv (pv 6) pe_int) (fun _ _ => rfl))) pa_nil)) (by rfl))
      (pss_one (ps_dput hu (pv 5) (pv 10) (pe_op op_catT (pv 10) (pe_tup (pa_cons (pv 12) (pa_cons (pv 13) (pa_cons (pe_ix ix_tup (pe_tup (pa_cons pe_str (pa_cons pe_str (pa_cons pe_str (pa_cons pe_str (pa_cons pe_str pa_nil)))))) (pe_op op_mod (pe_op op_fdiv (pv 11) pe_int) pe_int) (fun _ _ => rfl)) pa_nil))))) rfl))))))))
      (pss_one (ps_ret (pe_lock (pe_lc (own := [("_law_key", 10)]) (g := gName 10) (tt := tYes) (by rfl) nd (pi_keys (pv 5)) (blkOk_by (own := [("_law_key", 10)]) (N := nm_law_words) (sc := defScope st_law_words) (by decide +kernel)) (fun _ _ _ _ _ => pg_name (i := 10) nd rfl (Or.inl rfl)) (fun _ _ _ _ _ => pts_nil) (fun _ _ _ _ _ => (pe_dget hu (pv 5) (pv 10) (fun _ _ => rfl))))))))))), ?_⟩
    -- the cells
    refine ⟨fun σ H1 => ∃ (lc : Addr) (cs : List Int), σ = [some (.ref l), some (.int by_), some (.int (most : Int)), some (.ref lc), none, none, none, none, none, none, none, none, none, none] ∧ Kx H H1 ∧ SqL K H1 lc (cs.map V.int) ∧ 0 < cs.length ∧ cs.length ≤ 63 ∧ (∀ z ∈ cs, Bits z 1100000), ?_, ?_⟩
    · refine ⟨_, rfl, Nat.zero_le _, fun z nz => ?_⟩
      have k1 : Kx H (upd H z (.lst [])) := Kx.new nz
      have hz1 : (upd H z (.lst [])) z = some (.lst (([] : List Int).map V.int)) := upd_same
      generalize upd H z (.lst []) = H1 at k1 hz1 ⊢
      refine ⟨isD ns, isD [], isD_dp (k1.l hl), isD_dp (sq_of hz1), isD_sh ns, isD_sh [], _, rfl, ?_⟩
      rw [isD_eqv]
      by_cases e : ns = []
      · rw [decide_eq_true e]
        refine iteF ⟨by show 1 ≤ sizeLine; decide, fun y ny => ?_⟩
        exact ⟨y, [5], rfl, k1.trans (Kx.new ny), sq_of upd_same, by decide, by decide, fun z hz => by rw [List.mem_singleton.mp hz]; exact Bits.of (by decide) (by decide) |>.mono (n := 10) (by decide)⟩
      · rw [decide_eq_false e]
        refine iteT ⟨_, rfl, 63, rfl, l, _, rfl, k1.l hl, fun y ny => ?_⟩
        have ec : cutV (ns.map V.int) none (some 63) = ns.map V.int := by
          unfold cutV
          rw [HT.sIx_none, show HT.sIx (ns.map V.int).length (ns.map V.int).length (some 63) = min 63 (ns.map V.int).length from HT.sIx_nat _ _ 63]
          rw [List.length_map, List.drop_zero, Nat.min_eq_right (by omega), Nat.sub_zero]
          exact List.take_of_length_le (by rw [List.length_map]; exact Nat.le_refl _)
        refine ⟨y, ns, rfl, k1.trans (Kx.new ny), sq_of ?_, List.length_pos_iff.mpr e, h63, hbits⟩
        rw [upd_same, ec]
    · rintro σ H1 ⟨lc, cs, rfl, k1, hc1, hc0, hc63, hcb⟩
      -- whole, found
      refine ⟨_, rfl, lc, cs, rfl, hc1, _, rfl, _, rfl, _, _, rfl, rfl, .inl ⟨by decide, by decide⟩, _, _, rfl, rfl, ?_⟩
      have w0 := abs_nn cs.sum
      have wb := bits_abs (bits_sum hcb)
      dsimp only
      generalize (if cs.sum < 0 then -cs.sum else cs.sum) = ab at w0 wb ⊢
      intro d nd0
      have k2 : Kx H1 (upd H1 d (.dT [])) := Kx.new nd0
      have hd2 : (upd H1 d (.dT [])) d = some (.dT []) := upd_same
      have nd00 : H d = none := k1.f _ nd0
      generalize upd H1 d (.dT []) = H2 at k2 hd2 ⊢
      refine ⟨by show 2 ≤ sizeLine; decide, fun t nt => ?_⟩
      have k3 : Kx H2 (upd H2 t (.tup [.int (ab + 7 * by_), .ref d])) := Kx.new nt
      have ht3 : (upd H2 t (.tup [.int (ab + 7 * by_), .ref d])) t = some (.tup [.int (ab + 7 * by_), .ref d]) := upd_same
      have hd3 := k3.dt hd2
      generalize upd H2 t (.tup [.int (ab + 7 * by_), .ref d]) = H3 at k3 ht3 hd3 ⊢
      refine ⟨t, _, rfl, st_of ht3, rfl, _, _, rfl, _, _, rfl, rfl, ?_⟩
      have wh0 : 0 ≤ ab + 7 * by_ := by omega
      have whb : Bits (ab + 7 * by_) 1200000 := wb.add (show Bits (7 * by_) 20 from Bits.of (by omega) (by omega)) (by omega) (by omega)
      generalize ab + 7 * by_ = wh at wh0 whb
      have k03 := (k1.trans k2).trans k3
      -- kind
      refine ⟨_, rfl, _, _, rfl, rfl, ⟨by decide, by decide⟩, _, _, rfl, rfl, (by show (0 : Int) < 4; decide), ?_⟩
      have kd0 : 0 ≤ wh / 81 % 4 := Int.emod_nonneg _ (by decide)
      have kd1 : wh / 81 % 4 < 4 := Int.emod_lt_of_pos _ (by decide)
      dsimp (config := { proj := false, failIfUnchanged := false }) only
      generalize wh / 81 % 4 = kd at kd0 kd1 ⊢
      -- the loop
      refine ⟨_, rfl, _, rfl, _, _, rfl, rfl, _, _, rfl, rfl, (by omega), ?_⟩
      have n0 : 0 ≤ wh % ((most : Int) + 1) := Int.emod_nonneg _ (by omega)
      have n1 : wh % ((most : Int) + 1) < (most : Int) + 1 := Int.emod_lt_of_pos _ (by omega)
      dsimp (config := { proj := false, failIfUnchanged := false }) only
      generalize wh % ((most : Int) + 1) = nn at n0 n1 ⊢
      refine ⟨nn, rfl, by omega, by omega, for_range (lo := 0) (n := nn.toNat) (fun i σ H4 => ∃ (qs : List (Addr × Wd)) (v7 v8 v9 v10 v11 v12 v13 : Option V), σ = [some (.ref l), some (.int by_), some (.int (most : Int)), some (.ref lc), some (.int wh), some (.ref d), some (.int kd), v7, v8, v9, v10, v11, v12, v13] ∧ Kx H1 H4 ∧
        H4 d = some (.dT (qs.map entW)) ∧ PAt H4 qs ∧ (∀ q ∈ qs, q.2.ok) ∧ (qs.Pairwise fun a b => kW a.2 ≠ kW b.2) ∧ qs.length ≤ i)
        ⟨[], none, none, none, none, none, none, none, rfl, k2.trans k3, hd3, fun _ z => (nomatch z), fun _ z => (nomatch z), List.Pairwise.nil, Nat.le_refl _⟩ ?_ ?_⟩
      · rintro i σ H4 hi ⟨qs, v7, v8, v9, v10, v11, v12, v13, rfl, k4, hd4, hp4, ok4, df4, ln4⟩
        have hlen : (0 : Int) < ((cs.map V.int).length : Int) := by rw [List.length_map]; omega
        have m0 := Int.emod_nonneg (0 + (i : Int) + by_) (show ((cs.map V.int).length : Int) ≠ 0 by omega)
        have m1 := Int.emod_lt_of_pos (0 + (i : Int) + by_) hlen
        obtain ⟨cv, hcv, hcm⟩ := at_small (xs := cs.map V.int) m0 m1
        obtain ⟨ce, hce, rfl⟩ := List.mem_map.mp hcm
        have hbce := hcb ce hce
        have hc4 : SqL K H4 lc (cs.map V.int) := k4.l hc1
        have hcl : (cs.map V.int).length = cs.length := List.length_map _
        -- cell
        refine ⟨_, rfl, _, rfl, _, rfl, _, _, rfl, rfl, _, rfl, lc, _, rfl, .inl hc4, _, _, rfl, rfl, hlen, ?_⟩
        refine ⟨lc, _, _, _, rfl, rfl, hc4, hcv, _, rfl, _, rfl, lc, _, rfl, .inl hc4, _, _, rfl, rfl, ⟨hlen, by omega⟩, _, _, rfl, rfl, ?_⟩
        have q0 : 0 ≤ (0 + (i : Int)) / ((cs.map V.int).length : Int) := Int.ediv_nonneg (by omega) (by omega)
        have q1 : (0 + (i : Int)) / ((cs.map V.int).length : Int) ≤ 200 := Int.le_trans (Int.ediv_le_self _ (by omega)) (by omega)
        have hbc : Bits (ce + (0 + (i : Int)) / ((cs.map V.int).length : Int)) 2000000 := hbce.add (Bits.of (n := 10) q0 (by omega)) (by decide) (by decide)
        dsimp (config := { proj := false, failIfUnchanged := false }) only
        generalize ce + (0 + (i : Int)) / ((cs.map V.int).length : Int) = cell at hbc ⊢
        refine ⟨_, rfl, _, rfl, _, rfl, _, _, rfl, rfl, _, rfl, cell, _, _, rfl, hbc, by omega, by omega, fun r => ⟨_, rfl, _, _, rfl, rfl, ⟨by decide, by decide⟩, ?_⟩⟩
        have x0 : 0 ≤ (if r < 0 then -r else r) / 3 := Int.ediv_nonneg (abs_nn r) (by decide)
        dsimp (config := { proj := false, failIfUnchanged := false }) only
        generalize (if r < 0 then -r else r) / 3 = nh at x0 ⊢
        -- key
        have kk0 : 0 ≤ kd % 2 := Int.emod_nonneg _ (by decide)
        have kk1 : kd % 2 < 2 := Int.emod_lt_of_pos _ (by decide)
        have kq0 : 0 ≤ kd / 2 := Int.ediv_nonneg kd0 (by decide)
        have kq1 : kd / 2 < 2 := by omega
        obtain ⟨z1, hz1, z1a, z1b⟩ := at_two 99 12 kk0 kk1 (by decide) (by decide) (m := 99) (by decide) (by decide)
        refine ⟨_, rfl, (by show 2 ≤ sizeLine; decide), fun t1 nt1 => ?_⟩
        have k5 : Kx H4 (upd H4 t1 (.tup [.int 99, .int 12])) := Kx.new nt1
        refine ⟨_, rfl, _, _, rfl, rfl, (by show (0 : Int) < 2; decide), t1, _, _, _, rfl, rfl, st_of upd_same, hz1, _, _, rfl, rfl, z1a, _, _, rfl, rfl, _, rfl, _, _, rfl, rfl, ⟨by decide, by decide⟩, _, _, rfl, rfl, (by show (0 : Int) < 4; decide), (by show 2 ≤ sizeLine; decide), ?_⟩
        have c0 : 0 ≤ nh % z1 := Int.emod_nonneg _ (by omega)
        have c1 : nh % z1 < z1 := Int.emod_lt_of_pos _ z1a
        have h0 : 0 ≤ nh / 99 % 4 := Int.emod_nonneg _ (by decide)
        have h1 : nh / 99 % 4 < 4 := Int.emod_lt_of_pos _ (by decide)
        dsimp (config := { proj := false, failIfUnchanged := false }) only
        generalize nh % z1 = cc at c0 c1 ⊢
        generalize nh / 99 % 4 = hh at h0 h1 ⊢
        generalize upd H4 t1 (.tup [.int 99, .int 12]) = H5 at k5 ⊢
        intro ky nky
        have k6 : Kx H5 (upd H5 ky (.tup [.int (1 + cc), .int hh])) := Kx.new nky
        have hky : (upd H5 ky (.tup [.int (1 + cc), .int hh])) ky = some (.tup [.int (1 + cc), .int hh]) := upd_same
        generalize upd H5 ky (.tup [.int (1 + cc), .int hh]) = H6 at k6 hky ⊢
        -- far, person, hour
        refine ⟨_, rfl, _, _, rfl, rfl, ⟨by decide, by decide⟩, ?_⟩
        have fr0 : 0 ≤ nh / 396 := Int.ediv_nonneg x0 (by decide)
        dsimp (config := { proj := false, failIfUnchanged := false }) only
        generalize nh / 396 = far at fr0 ⊢
        obtain ⟨z2, hz2, z2a, z2b⟩ := at_two 8 3 kq0 kq1 (by decide) (by decide) (m := 8) (by decide) (by decide)
        obtain ⟨z3, hz3, z3a, z3b⟩ := at_two 12 4 kq0 kq1 (by decide) (by decide) (m := 12) (by decide) (by decide)
        refine ⟨_, rfl, (by show 2 ≤ sizeLine; decide), fun t2 nt2 => ?_⟩
        have k7 : Kx H6 (upd H6 t2 (.tup [.int 8, .int 3])) := Kx.new nt2
        have ht2 : (upd H6 t2 (.tup [.int 8, .int 3])) t2 = some (.tup [.int 8, .int 3]) := upd_same
        generalize upd H6 t2 (.tup [.int 8, .int 3]) = H7 at k7 ht2 ⊢
        refine ⟨_, rfl, _, _, rfl, rfl, ⟨by decide, by decide⟩, t2, _, _, _, rfl, rfl, st_of ht2, hz2, _, _, rfl, rfl, z2a, ?_⟩
        refine ⟨_, rfl, _, _, rfl, rfl, ⟨by decide, by decide⟩, (by show 2 ≤ sizeLine; decide), fun t3 nt3 => ?_⟩
        have k8 : Kx H7 (upd H7 t3 (.tup [.int 12, .int 4])) := Kx.new nt3
        have ht3' : (upd H7 t3 (.tup [.int 12, .int 4])) t3 = some (.tup [.int 12, .int 4]) := upd_same
        generalize upd H7 t3 (.tup [.int 12, .int 4]) = H8 at k8 ht3' ⊢
        refine ⟨_, rfl, _, _, rfl, rfl, ⟨by decide, by decide⟩, t3, _, _, _, rfl, rfl, st_of ht3', hz3, _, _, rfl, rfl, z3a, ?_⟩
        have p0 : 0 ≤ far % z2 := Int.emod_nonneg _ (by omega)
        have p1 : far % z2 < z2 := Int.emod_lt_of_pos _ z2a
        have o0 : 0 ≤ far / 8 % z3 := Int.emod_nonneg _ (by omega)
        have o1 : far / 8 % z3 < z3 := Int.emod_lt_of_pos _ z3a
        dsimp (config := { proj := false, failIfUnchanged := false }) only
        generalize far % z2 = pp at p0 p1 ⊢
        generalize far / 8 % z3 = oo at o0 o1 ⊢
        refine ⟨_, _, rfl, ?_⟩
        -- the word
        have a0 : 0 ≤ far / 96 % 5 := Int.emod_nonneg _ (by decide)
        have a1 : far / 96 % 5 < 5 := Int.emod_lt_of_pos _ (by decide)
        obtain ⟨va, hva, hvm⟩ := at_small (xs := [V.str "yes", V.str "maybe", V.str "no", V.str "yes", V.str "yes"]) a0 a1
        obtain ⟨an, rfl, han⟩ : ∃ an, va = V.str an ∧ an ∈ ansL := by
          simp only [List.mem_cons, List.not_mem_nil, or_false] at hvm
          rcases hvm with rfl | rfl | rfl | rfl | rfl
          · exact ⟨_, rfl, by unfold ansL; exact .head _⟩
          · exact ⟨_, rfl, by unfold ansL; exact .tail _ (.head _)⟩
          · exact ⟨_, rfl, by unfold ansL; exact .tail _ (.tail _ (.head _))⟩
          · exact ⟨_, rfl, by unfold ansL; exact .head _⟩
          · exact ⟨_, rfl, by unfold ansL; exact .head _⟩
        refine ⟨_, rfl, _, rfl, _, rfl, (by show 5 ≤ sizeLine; decide), fun t4 nt4 => ?_⟩
        have k9 : Kx H8 (upd H8 t4 (.tup [.str "yes", .str "maybe", .str "no", .str "yes", .str "yes"])) := Kx.new nt4
        have ht4 : (upd H8 t4 (.tup [.str "yes", .str "maybe", .str "no", .str "yes", .str "yes"])) t4 = some (.tup [.str "yes", .str "maybe", .str "no", .str "yes", .str "yes"]) := upd_same
        generalize upd H8 t4 (.tup [.str "yes", .str "maybe", .str "no", .str "yes", .str "yes"]) = H9 at k9 ht4 ⊢
        refine ⟨_, rfl, _, _, rfl, rfl, ⟨by decide, by decide⟩, _, _, rfl, rfl, (by show (0 : Int) < 5; decide), t4, _, _, _, rfl, rfl, st_of ht4, hva, (by show 3 ≤ sizeLine; decide), fun t5 nt5 => ?_⟩
        have k10 : Kx H9 (upd H9 t5 (.tup [.int pp, .int oo, .str an])) := Kx.new nt5
        have ht5 : (upd H9 t5 (.tup [.int pp, .int oo, .str an])) t5 = some (.tup [.int pp, .int oo, .str an]) := upd_same
        generalize upd H9 t5 (.tup [.int pp, .int oo, .str an]) = H10 at k10 ht5 ⊢
        have k6a := ((k7.trans k8).trans k9).trans k10
        refine ⟨ky, t5, _, _, rfl, rfl, st_of (k6a.tup hky), st_of ht5, (fun z => nomatch z), (by show 5 ≤ sizeLine; decide), (fun z => nomatch z), fun _ tw ntw => ?_⟩
        have k11 : Kx H10 (upd H10 tw (.tup [.int (1 + cc), .int hh, .int pp, .int oo, .str an])) := Kx.new ntw
        have htw : (upd H10 tw (.tup [.int (1 + cc), .int hh, .int pp, .int oo, .str an])) tw = some (.tup [.int (1 + cc), .int hh, .int pp, .int oo, .str an]) := upd_same
        have k4w := (((k5.trans k6).trans k6a).trans k11)
        have hky' := (k6a.trans k11).tup hky
        have ew : ([.int (1 + cc), .int hh] : List V) ++ [.int pp, .int oo, .str an] = [.int (1 + cc), .int hh, .int pp, .int oo, .str an] := rfl
        rw [ew]
        generalize upd H10 tw (.tup [.int (1 + cc), .int hh, .int pp, .int oo, .str an]) = H11 at k11 htw k4w hky' ⊢
        have hd11 := k4w.dt hd4
        refine ⟨_, rfl, _, rfl, d, _, rfl, DPut.t (k := kW ⟨1 + cc, hh, pp, oo, an⟩) hd11 hky' (lt80 (by rw [List.length_map]; omega)), ?_⟩
        have okw : (⟨1 + cc, hh, pp, oo, an⟩ : Wd).ok := ⟨show 1 ≤ 1 + cc by omega, show 1 + cc ≤ 99 by omega, h0, show hh ≤ 3 by omega, p0, show pp ≤ 7 by omega, o0, show oo ≤ 11 by omega, han⟩
        have e9 := putQ_ent qs (tw, ⟨1 + cc, hh, pp, oo, an⟩)
        refine ⟨putQ qs (tw, ⟨1 + cc, hh, pp, oo, an⟩), _, _, _, _, _, _, _, rfl, (k4.trans k4w).mut nd0, ?_, ?_, ?_, putQ_diff df4, ?_⟩
        · rw [upd_same, ← e9]
        · have hp11 : PAt H11 qs := hp4.k k4w
          have hpa : PAt H11 (putQ qs (tw, ⟨1 + cc, hh, pp, oo, an⟩)) := fun q hq => by
            rcases putQ_mem hq with rfl | hq
            · exact htw
            · exact hp11 q hq
          exact hpa.up hd11 fun ys z => nomatch z
        · intro q hq
          rcases putQ_mem hq with rfl | hq
          · exact okw
          · exact ok4 q hq
        · have := putQ_len qs (tw, (⟨1 + cc, hh, pp, oo, an⟩ : Wd))
          omega
      · rintro σ H4 ⟨qs, v7, v8, v9, v10, v11, v12, v13, rfl, k4, hd4, hp4, ok4, df4, ln4⟩
        refine ⟨d, .dT (qs.map entW), hd4, True.intro, fun od => ?_⟩
        have kL : Kx H1 (upd H4 d (.frz od (.dT (qs.map entW)))) := k4.mut nd0
        have hdL : (upd H4 d (.frz od (.dT (qs.map entW)))) d = some (.frz od (.dT (qs.map entW))) := upd_same
        have hpL : PAt (upd H4 d (.frz od (.dT (qs.map entW)))) qs := hp4.up hd4 fun ys z => nomatch z
        generalize upd H4 d (.frz od (.dT (qs.map entW))) = HL at kL hdL hpL ⊢
        refine ⟨_, rfl, d, od, rfl, .inr ⟨_, hdL, fun D nD => ?_⟩⟩
        have nDd : d ≠ D := ne_of_none hdL nD
        have nD1 : H1 D = none := kL.f _ nD
        refine lc_keysT (Qd := fun H' => H' d = some (.frz od (.dT (qs.map entW))) ∧ Q (.ref D) (upd H' d (.dT (qs.map entW)))) (fun i Hx => Kx H1 Hx ∧ Hx d = some (.frz od (.dT (qs.map entW))) ∧ PAt Hx qs ∧ Hx D = some (.lst (((qs.take i).map (·.1)).map V.ref)))
          ⟨kL.trans (Kx.new nD), by rw [upd_ne nDd]; exact hdL, hpL.k (Kx.new nD), upd_same⟩ (fun i Hx _ z => z.2.1) ?_ ?_
        · rintro i k v b Hx hi hb ⟨kx, hdx, hpx, hDx⟩
          obtain ⟨q1, hq1, eq1⟩ : ∃ q1, qs[i]? = some q1 ∧ entW q1 = (k, v) := by
            rw [List.getElem?_map] at hi
            exact Option.map_eq_some_iff.mp hi
          cases eq1
          refine ⟨rfl, ?_⟩
          refine ⟨_, rfl, _, rfl, d, .ref q1.1, rfl, .inr ⟨_, kW q1.2, b, .inr ⟨_, hdx⟩, rfl, hb, (valV_of df4 (List.mem_of_getElem? hq1)).symm⟩, ?_⟩
          have e1 : qs.take (i + 1) = qs.take i ++ [q1] := by rw [List.take_add_one, hq1] <;> rfl
          refine ⟨_, hDx, lt80 ?_, kx.mut nD1, by rw [upd_ne nDd]; exact hdx, hpx.up hDx (fun ys z => nomatch z), ?_⟩
          · rw [List.length_map, List.length_map, List.length_take]
            omega
          · rw [upd_same, e1, List.map_append, List.map_append] <;> rfl
        · rintro Hx ⟨kx, hdx, hpx, hDx⟩
          rw [List.length_map, List.take_length] at hDx
          refine ⟨hdx, q _ D (qs.map (·.1)) (qs.map (·.2)) ((k1.trans kx).mut nd00) (k1.f _ nD1) (by rw [upd_ne nDd.symm]; exact hDx) ?_ ?_ ?_ ?_⟩
          · exact tat_of (hpx.up hdx fun ys z => nomatch z)
          · rw [List.length_map]
            omega
          · intro x hx
            obtain ⟨q1, hq1, rfl⟩ := List.mem_map.mp hx
            exact ok4 q1 hq1
          · unfold Diff
            rw [List.pairwise_map]
            exact df4
end
end CH
end

section
set_option Elab.async false
set_option linter.all false
set_option maxRecDepth 100000
set_option maxHeartbeats 4000000
namespace CH
open PySem PySem.Spec PyProof.Rows L2
open GxR (TabB TabG Tabbed)
theorem MAt.up {K : PySem.W.Frag} {H : Hp} {r a : Addr} {o u : HO} {m : Mt} (h : MAt K H a m) (hr : H r = some o) (n1 : ∀ ys, o ≠ .tup ys) (n2 : ∀ b v, o ≠ .frz b v) : MAt K (upd H r u) a m := by
  obtain ⟨p, n, h1, h2, h3⟩ := h.ex
  exact ⟨p, n, st_up hr n1 n2 h1, st_up hr n1 n2 h2, st_up hr n1 n2 h3⟩
theorem tIf_any {c : Bool} {ta tb : TE} {σ : L2.St} {H : Hp} {Q : VK} {x y : V} (hx : ∀ Q : VK, Q x H → ta σ H Q) (hy : ∀ Q : VK, Q y H → tb σ H Q) (h : ∀ v, v = x ∨ v = y → Q v H) : if c = true then ta σ H Q else tb σ H Q := by
  cases c with
  | true =>
    rw [if_pos rfl]
    exact hx Q (h x (.inl rfl))
  | false =>
    rw [if_neg Bool.false_ne_true]
    exact hy Q (h y (.inr rfl))
section
variable {P : Program} {w : World} {K : PySem.W.Frag} {mg : Str → Option Value} {base : Heap} {c aA cc cm : Addr}
abbrev st_law_meetings : Stmt := top 61
abbrev nm_law_meetings : List Str := ["_law_script", "_law_by", "_law_most", "_law_cells", "_law_whole", "_law_found", "_law_olds", "_law_at", "_law_number_here", "_law_people", "_law_enough", "_law_needed"]
theorem sc_law_meetings : FnScope nm_law_meetings ["_law_script", "_law_by", "_law_most"] (defScope st_law_meetings) := C8.fnScope_by (by decide +kernel)
/-- meetings and olds, each a list of its own -/
structure Mets (K : PySem.W.Frag) (H0 H : Hp) (lf lo : Addr) (ms : List Mt) (os : List (Option Int)) : Prop where
  ex : ∃ as : List Addr, H lf = some (.lst (as.map V.ref)) ∧ Paired (fun a m => MAt K H a m) as ms
  o : H lo = some (.lst (os.map oldV))
  nf : H0 lf = none
  no : H0 lo = none
  ne : lf ≠ lo
  len : os.length = ms.length
  ok : ∀ m ∈ ms, m.ok
  old : ∀ x ∈ os, ∀ i, x = some i → 0 ≤ i ∧ i < 12
def sp_law_meetings (K : PySem.W.Frag) : Sp := fun vs H Q _ => ∃ (l : Addr) (ns : List Int) (by_ : Int) (most : Nat), vs = [.ref l, .int by_, .int (most : Int)] ∧ SqL K H l (ns.map V.int) ∧ ns.length ≤ 63 ∧ (∀ z ∈ ns, Bits z 1100000) ∧ 0 ≤ by_ ∧ by_ ≤ 1000 ∧ most ≤ 200 ∧
  ∀ (H' : Hp) (r lf lo : Addr) (ms : List Mt) (os : List (Option Int)), Kx H H' → H' r = some (.tup [.ref lf, .ref lo]) → Mets K H H' lf lo ms os → ms.length ≤ most → Q (.ref r) H'
theorem ok_law_meetings (D : DefT K mg "_law_meetings" st_law_meetings c) (T : Tx K mg aA) (f__law_number : C8.Cal P w K mg base 1 "_law_number" sp_law_number []) (f__law_meeting : C8.Cal P w K mg base 1 "_law_meeting" (sp_law_meeting K) []) : C8.Cal P w K mg base 2 "_law_meetings" (sp_law_meetings K) [] := by
  refine cal_of D sc_law_meetings (fun _ _ _ _ _ _ us hl => match us, hl with | [_, _, _], _ => rfl) (fun vs H Q E h => ?_) (fun fa A outer s H vs Q E hr h => ?_)
  · obtain ⟨l, ns, by_, most, rfl, _⟩ := h
    rfl
  · obtain ⟨l, ns, by_, most, rfl, hl, h63, hbits, hb0, hb1, hm, q⟩ := h
    have nd := sc_law_meetings.nd
    have hu := hu_of hr
    refine ⟨_, (C8.pss_cut (ps_set (i := 3) nd rfl (Or.inl rfl) (pe_ifExp (pt_cmpR (op_neD hr.units) (pv 0) (pe_lst pa_nil) (nomark _)) (pe_slice sl_list (pv 0) po_none (po_some pe_int)) (pe_lst (pa_cons pe_int pa_nil))))
      (pss_cons (ps_par3 (i := 4) (j := 5) (l := 6) (by rfl) nd rfl rfl rfl (by decide) (by decide) (by decide) rfl rfl rfl (pa_cons (pe_op op_add (pe_callB call_abs (by rfl) T.z_abs (by decide +kernel) (pa_cons (pe_callB (cr_sum rfl) (by rfl) T.z_sum (by decide +kernel) (pa_cons (pv 3) pa_nil)) pa_nil)) (pe_op op_mul pe_int (pv 1))) (pa_cons (pe_lst pa_nil) (pa_cons (pe_lst pa_nil) pa_nil))) (by rfl))
      (pss_cons (ps_for PassesOwn.never rfl (pi_range1 (by rfl) T.z_range (pa_cons (pe_op op_mod (pe_op op_fdiv (pv 4) pe_int) (pe_op op_add (pv 2) pe_int)) pa_nil)) (pg_name (i := 7) nd rfl (Or.inl rfl)) (pss_cons (ps_set (i := 8) nd rfl (Or.inl rfl) (pe_op op_fdiv (pe_callB call_abs (by rfl) T.z_abs (by decide +kernel) (pa_cons (C8.pe_c f__law_number hr (by decide) (by rfl) (pa_cons (pe_ix ix_list (pv 3) (pe_op op_mod (pe_op op_add (pv 7) (pv 1)) (pe_callB call_len_seq (by rfl) T.z_len PySem.boot_len (pa_cons (pv 3) pa_nil))) (fun _ _ => rfl)) (pa_cons (pe_op op_add (pv 7) pe_int) (pa_cons (pv 4) pa_nil)))) pa_nil)) pe_int))
      (pss_cons (ps_asg (C8.pe_c f__law_meeting hr (by decide) (by rfl) (pa_cons (pe_op op_fdiv (pv 8) pe_int) pa_nil)) (pg_tup (by rfl) (pgs_cons (pg_name (i := 9) nd rfl (Or.inl rfl)) (pgs_cons (pg_name (i := 10) nd rfl (Or.inl rfl)) (pgs_cons (pg_name (i := 11) nd rfl (Or.inl rfl)) pgs_nil)))))
      (pss_cons (ps_expr (pe_bm PySem.F.plainAttrs_list PySem.F.slot_list_append PySem.F.type_list_append mt_append (pv 5) (pa_cons (pe_tup (pa_cons (pv 9) (pa_cons (pe_ifExp (pt_cmpR op_gt (pe_op op_mod (pe_op op_fdiv (pv 4) pe_int) pe_int) pe_int (nomark _)) pe_int (pv 10)) (pa_cons (pe_ifExp (pt_cmpR op_eq (pe_op op_mod (pe_op op_fdiv (pv 4) pe_int) pe_int) pe_int (nomark _)) (pv 11) (pe_tup pa_nil)) pa_nil)))) pa_nil)))
      (pss_one (ps_expr (pe_bm PySem.F.plainAttrs_list PySem.F.slot_list_append PySem.F.type_list_append mt_append (pv 6) (pa_cons (pe_ifExp (pt_cmpR op_lt (pe_op op_mod (pv 8) pe_int) pe_int (nomark _)) pe_non (pe_op op_mod (pe_op op_mod (pv 8) pe_int) pe_int)) pa_nil))))))))
      (pss_one (ps_ret (pe_tup (pa_cons (pv 5) (pa_cons (pv 6) pa_nil)))))))), ?_⟩
    -- the cells
    refine ⟨fun σ H1 => ∃ (lc : Addr) (cs : List Int), σ = [some (.ref l), some (.int by_), some (.int (most : Int)), some (.ref lc), none, none, none, none, none, none, none, none] ∧ Kx H H1 ∧ SqL K H1 lc (cs.map V.int) ∧ 0 < cs.length ∧ cs.length ≤ 63 ∧ (∀ z ∈ cs, Bits z 1100000), ?_, ?_⟩
    · refine ⟨_, rfl, Nat.zero_le _, fun z nz => ?_⟩
      have k1 : Kx H (upd H z (.lst [])) := Kx.new nz
      have hz1 : (upd H z (.lst [])) z = some (.lst (([] : List Int).map V.int)) := upd_same
      generalize upd H z (.lst []) = H1 at k1 hz1 ⊢
      refine ⟨isD ns, isD [], isD_dp (k1.l hl), isD_dp (sq_of hz1), isD_sh ns, isD_sh [], _, rfl, ?_⟩
      rw [isD_eqv]
      by_cases e : ns = []
      · rw [decide_eq_true e]
        refine iteF ⟨by show 1 ≤ sizeLine; decide, fun y ny => ?_⟩
        exact ⟨y, [5], rfl, k1.trans (Kx.new ny), sq_of upd_same, by decide, by decide, fun z hz => by rw [List.mem_singleton.mp hz]; exact Bits.of (by decide) (by decide) |>.mono (n := 10) (by decide)⟩
      · rw [decide_eq_false e]
        refine iteT ⟨_, rfl, 63, rfl, l, _, rfl, k1.l hl, fun y ny => ?_⟩
        have ec : cutV (ns.map V.int) none (some 63) = ns.map V.int := by
          unfold cutV
          rw [HT.sIx_none, show HT.sIx (ns.map V.int).length (ns.map V.int).length (some 63) = min 63 (ns.map V.int).length from HT.sIx_nat _ _ 63]
          rw [List.length_map, List.drop_zero, Nat.min_eq_right (by omega), Nat.sub_zero]
          exact List.take_of_length_le (by rw [List.length_map]; exact Nat.le_refl _)
        refine ⟨y, ns, rfl, k1.trans (Kx.new ny), sq_of ?_, List.length_pos_iff.mpr e, h63, hbits⟩
        rw [upd_same, ec]
    · rintro σ H1 ⟨lc, cs, rfl, k1, hc1, hc0, hc63, hcb⟩
      refine ⟨_, rfl, lc, cs, rfl, hc1, _, rfl, _, rfl, _, _, rfl, rfl, .inl ⟨by decide, by decide⟩, _, _, rfl, rfl, ?_⟩
      have w0 := abs_nn cs.sum
      dsimp (config := { proj := false, failIfUnchanged := false }) only
      generalize (if cs.sum < 0 then -cs.sum else cs.sum) = ab at w0 ⊢
      have wh0 : 0 ≤ ab + 5 * by_ := by omega
      generalize ab + 5 * by_ = wh at wh0 ⊢
      refine ⟨Nat.zero_le _, fun lf nlf => ?_⟩
      have k2 : Kx H1 (upd H1 lf (.lst [])) := Kx.new nlf
      have hlf : (upd H1 lf (.lst [])) lf = some (.lst (([] : List Addr).map V.ref)) := upd_same
      generalize upd H1 lf (.lst []) = H2 at k2 hlf ⊢
      refine ⟨Nat.zero_le _, fun lo nlo2 => ?_⟩
      have k3 : Kx H2 (upd H2 lo (.lst [])) := Kx.new nlo2
      have hlo : (upd H2 lo (.lst [])) lo = some (.lst (([] : List (Option Int)).map oldV)) := upd_same
      have nflo : lf ≠ lo := ne_of_none hlf nlo2
      have nlo : H1 lo = none := k2.f _ nlo2
      generalize upd H2 lo (.lst []) = H3 at k3 hlo ⊢
      have hlf3 := k3.lst hlf
      refine ⟨_, _, _, rfl, ?_⟩
      refine ⟨_, rfl, _, _, rfl, rfl, ⟨by decide, by decide⟩, _, rfl, _, _, rfl, rfl, _, _, rfl, rfl, (by omega), ?_⟩
      have n0 : 0 ≤ wh / 3 % ((most : Int) + 1) := Int.emod_nonneg _ (by omega)
      have n1 : wh / 3 % ((most : Int) + 1) < (most : Int) + 1 := Int.emod_lt_of_pos _ (by omega)
      dsimp (config := { proj := false, failIfUnchanged := false }) only
      generalize wh / 3 % ((most : Int) + 1) = nn at n0 n1 ⊢
      refine ⟨nn, rfl, by omega, by omega, for_range (lo := 0) (n := nn.toNat) (fun i σ H4 => ∃ (as : List Addr) (ms : List Mt) (os : List (Option Int)) (v7 v8 v9 v10 v11 : Option V), σ = [some (.ref l), some (.int by_), some (.int (most : Int)), some (.ref lc), some (.int wh), some (.ref lf), some (.ref lo), v7, v8, v9, v10, v11] ∧ Kx H1 H4 ∧
        H4 lf = some (.lst (as.map V.ref)) ∧ Paired (fun a m => MAt K H4 a m) as ms ∧ H4 lo = some (.lst (os.map oldV)) ∧ os.length = ms.length ∧ ms.length ≤ i ∧ (∀ m ∈ ms, m.ok) ∧ ∀ x ∈ os, ∀ i, x = some i → 0 ≤ i ∧ i < 12)
        ⟨[], [], [], none, none, none, none, none, rfl, k2.trans k3, hlf3, .nil, hlo, rfl, Nat.le_refl _, fun _ z => absurd z (by simp), fun _ z => absurd z (by simp)⟩ ?_ ?_⟩
      · rintro i σ H4 hi ⟨as, ms, os, v7, v8, v9, v10, v11, rfl, k4, hlf, hpm, hlo, lom, lms, okm, oko⟩
        have hlen : (0 : Int) < ((cs.map V.int).length : Int) := by rw [List.length_map]; omega
        have m0 := Int.emod_nonneg (0 + (i : Int) + by_) (show ((cs.map V.int).length : Int) ≠ 0 by omega)
        have m1 := Int.emod_lt_of_pos (0 + (i : Int) + by_) hlen
        obtain ⟨cv, hcv, hcm⟩ := at_small (xs := cs.map V.int) m0 m1
        obtain ⟨ce, hce, rfl⟩ := List.mem_map.mp hcm
        have hc4 : SqL K H4 lc (cs.map V.int) := k4.l hc1
        refine ⟨_, rfl, _, rfl, _, rfl, _, _, rfl, rfl, _, rfl, lc, _, rfl, .inl hc4, _, _, rfl, rfl, hlen, lc, _, _, _, rfl, rfl, hc4, hcv, _, rfl, _, _, rfl, rfl, _, rfl, ce, _, _, rfl, (hcb ce hce).mono (by decide), by omega, by omega, fun rr => ⟨_, rfl, _, _, rfl, rfl, ⟨by decide, by decide⟩, ?_⟩⟩
        have x0 : 0 ≤ (if rr < 0 then -rr else rr) / 3 := Int.ediv_nonneg (abs_nn rr) (by decide)
        dsimp (config := { proj := false, failIfUnchanged := false }) only
        generalize (if rr < 0 then -rr else rr) / 3 = nh at x0 ⊢
        refine ⟨_, rfl, _, _, rfl, rfl, ⟨by decide, by decide⟩, nh / 24, rfl, Int.ediv_nonneg x0 (by decide), fun H5 am m k5 hm mok => ?_⟩
        obtain ⟨p, n, hma, hp5, hn5⟩ := hm.ex
        refine ⟨am, _, rfl, hma, rfl, _, _, rfl, _, _, rfl, _, _, rfl, rfl, ?_⟩
        refine ⟨_, rfl, .inl ⟨rfl, _, sq_of (k5.lst hlf)⟩, _, rfl, _, rfl, _, _, rfl, rfl, ⟨by decide, by decide⟩, _, _, rfl, rfl, (by show (0 : Int) < 3; decide), _, _, rfl, rfl, _, rfl, ?_⟩
        refine tIf_any (x := .int 1) (y := .int m.e) (fun Q q => q) (fun Q q => ⟨_, rfl, q⟩) fun v hv => ?_
        obtain ⟨e', rfl, he1, he2⟩ : ∃ e' : Int, v = .int e' ∧ 1 ≤ e' ∧ e' ≤ m.ps.length := by
          rcases hv with rfl | rfl
          · exact ⟨1, rfl, by decide, Int.le_trans mok.e1 mok.e2⟩
          · exact ⟨m.e, rfl, mok.e1, mok.e2⟩
        refine ⟨_, rfl, _, _, rfl, rfl, ⟨by decide, by decide⟩, _, _, rfl, rfl, (by show (0 : Int) < 2; decide), rfl, _, rfl, iteB (fun hz => ?_) (fun hz => ?_)⟩
        · refine ⟨_, rfl, ?_⟩
          refine ⟨(by show 3 ≤ sizeLine; decide), fun tm ntm => ?_⟩
          have k6 : Kx H5 (upd H5 tm (.tup [.ref p, .int e', .ref n])) := Kx.new ntm
          have htm : (upd H5 tm (.tup [.ref p, .int e', .ref n])) tm = some (.tup [.ref p, .int e', .ref n]) := upd_same
          generalize upd H5 tm (.tup [.ref p, .int e', .ref n]) = H7 at k6 htm ⊢
          have k47 : Kx H4 H7 := k5.trans k6
          have hm7 : MAt K H7 tm ⟨m.ps, e', m.nds⟩ := ⟨p, n, st_of htm, k6.t hp5, k6.t hn5⟩
          have mok7 : Mt.ok ⟨m.ps, e', m.nds⟩ := ⟨mok.p, mok.n, he1, he2, mok.sub⟩
          have hlf7 := k47.lst hlf
          have hlo7 := k47.lst hlo
          have las := paired_len hpm
          refine ⟨lf, _, _, rfl, rfl, hlf7, lt80 (by rw [List.length_map]; omega), ?_⟩
          have pm7 : Paired (fun a m => MAt K H7 a m) (as ++ [tm]) (ms ++ [⟨m.ps, e', m.nds⟩]) := paired_snoc (paired_imp (fun _ _ z => z.k k47) hpm) hm7
          have hlf8 : (upd H7 lf (.lst (as.map V.ref ++ [.ref tm]))) lf = some (.lst ((as ++ [tm]).map V.ref)) := by rw [upd_same, List.map_append] <;> rfl
          have hlo8 : (upd H7 lf (.lst (as.map V.ref ++ [.ref tm]))) lo = some (.lst (os.map oldV)) := by rw [upd_ne nflo.symm]; exact hlo7
          have pm8 : Paired (fun a m => MAt K (upd H7 lf (.lst (as.map V.ref ++ [.ref tm]))) a m) (as ++ [tm]) (ms ++ [⟨m.ps, e', m.nds⟩]) := paired_imp (fun _ _ z => z.up hlf7 (fun ys y => nomatch y) (fun b v y => nomatch y)) pm7
          have k18 : Kx H1 (upd H7 lf (.lst (as.map V.ref ++ [.ref tm]))) := (k4.trans k47).mut nlf
          generalize upd H7 lf (.lst (as.map V.ref ++ [.ref tm])) = H8 at hlf8 hlo8 pm8 k18 ⊢
          refine ⟨_, rfl, .inl ⟨rfl, _, sq_of hlo8⟩, _, rfl, _, _, rfl, rfl, (by show (0 : Int) < 24; decide), _, _, rfl, rfl, _, rfl, ?_⟩
          refine tIf_any (x := .non) (y := .int (nh % 24 % 12)) (fun Q q => q) (fun Q q => ⟨_, rfl, _, _, rfl, rfl, (by show (0 : Int) < 24; decide), _, _, rfl, rfl, (by show (0 : Int) < 12; decide), q⟩) fun v hv => ?_
          obtain ⟨o0, rfl, ho0⟩ : ∃ o0, v = oldV o0 ∧ ∀ i, o0 = some i → 0 ≤ i ∧ i < 12 := by
            rcases hv with rfl | rfl
            · exact ⟨none, rfl, fun i z => nomatch z⟩
            · exact ⟨some (nh % 24 % 12), rfl, fun i z => by cases z; exact ⟨Int.emod_nonneg _ (by decide), Int.emod_lt_of_pos _ (by decide)⟩⟩
          refine ⟨lo, _, _, rfl, rfl, hlo8, lt80 (by rw [List.length_map]; omega), ?_⟩
          refine ⟨as ++ [tm], ms ++ [⟨m.ps, e', m.nds⟩], os ++ [o0], _, _, _, _, _, rfl, k18.mut nlo, ?_, ?_, ?_, ?_, ?_, ?_, ?_⟩
          · rw [upd_ne nflo]
            exact hlf8
          · exact paired_imp (fun _ _ z => z.up hlo8 (fun ys y => nomatch y) (fun b v y => nomatch y)) pm8
          · rw [upd_same, List.map_append] <;> rfl
          · rw [List.length_append, List.length_append, lom] <;> rfl
          · rw [List.length_append]
            show ms.length + 1 ≤ i + 1
            omega
          · intro x hx
            rcases List.mem_append.mp hx with hx | hx
            · exact okm x hx
            · rw [List.mem_singleton.mp hx]
              exact mok7
          · intro x hx
            rcases List.mem_append.mp hx with hx | hx
            · exact oko x hx
            · rw [List.mem_singleton.mp hx]
              exact ho0
        · refine ⟨Nat.zero_le _, fun e ne => ?_⟩
          have ke : Kx H5 (upd H5 e (.tup [])) := Kx.new ne
          have he : (upd H5 e (.tup [])) e = some (.tup (([] : List Int).map V.int)) := upd_same
          generalize upd H5 e (.tup []) = H6 at ke he ⊢
          refine ⟨(by show 3 ≤ sizeLine; decide), fun tm ntm => ?_⟩
          have k6 : Kx H6 (upd H6 tm (.tup [.ref p, .int e', .ref e])) := Kx.new ntm
          have htm : (upd H6 tm (.tup [.ref p, .int e', .ref e])) tm = some (.tup [.ref p, .int e', .ref e]) := upd_same
          generalize upd H6 tm (.tup [.ref p, .int e', .ref e]) = H7 at k6 htm ⊢
          have k47 : Kx H4 H7 := (k5.trans ke).trans k6
          have hm7 : MAt K H7 tm ⟨m.ps, e', []⟩ := ⟨p, e, st_of htm, (ke.trans k6).t hp5, st_of (k6.tup he)⟩
          have mok7 : Mt.ok ⟨m.ps, e', []⟩ := ⟨mok.p, trivial, he1, he2, (fun x hx => absurd hx (by simp))⟩
          have hlf7 := k47.lst hlf
          have hlo7 := k47.lst hlo
          have las := paired_len hpm
          refine ⟨lf, _, _, rfl, rfl, hlf7, lt80 (by rw [List.length_map]; omega), ?_⟩
          have pm7 : Paired (fun a m => MAt K H7 a m) (as ++ [tm]) (ms ++ [⟨m.ps, e', []⟩]) := paired_snoc (paired_imp (fun _ _ z => z.k k47) hpm) hm7
          have hlf8 : (upd H7 lf (.lst (as.map V.ref ++ [.ref tm]))) lf = some (.lst ((as ++ [tm]).map V.ref)) := by rw [upd_same, List.map_append] <;> rfl
          have hlo8 : (upd H7 lf (.lst (as.map V.ref ++ [.ref tm]))) lo = some (.lst (os.map oldV)) := by rw [upd_ne nflo.symm]; exact hlo7
          have pm8 : Paired (fun a m => MAt K (upd H7 lf (.lst (as.map V.ref ++ [.ref tm]))) a m) (as ++ [tm]) (ms ++ [⟨m.ps, e', []⟩]) := paired_imp (fun _ _ z => z.up hlf7 (fun ys y => nomatch y) (fun b v y => nomatch y)) pm7
          have k18 : Kx H1 (upd H7 lf (.lst (as.map V.ref ++ [.ref tm]))) := (k4.trans k47).mut nlf
          generalize upd H7 lf (.lst (as.map V.ref ++ [.ref tm])) = H8 at hlf8 hlo8 pm8 k18 ⊢
          refine ⟨_, rfl, .inl ⟨rfl, _, sq_of hlo8⟩, _, rfl, _, _, rfl, rfl, (by show (0 : Int) < 24; decide), _, _, rfl, rfl, _, rfl, ?_⟩
          refine tIf_any (x := .non) (y := .int (nh % 24 % 12)) (fun Q q => q) (fun Q q => ⟨_, rfl, _, _, rfl, rfl, (by show (0 : Int) < 24; decide), _, _, rfl, rfl, (by show (0 : Int) < 12; decide), q⟩) fun v hv => ?_
          obtain ⟨o0, rfl, ho0⟩ : ∃ o0, v = oldV o0 ∧ ∀ i, o0 = some i → 0 ≤ i ∧ i < 12 := by
            rcases hv with rfl | rfl
            · exact ⟨none, rfl, fun i z => nomatch z⟩
            · exact ⟨some (nh % 24 % 12), rfl, fun i z => by cases z; exact ⟨Int.emod_nonneg _ (by decide), Int.emod_lt_of_pos _ (by decide)⟩⟩
          refine ⟨lo, _, _, rfl, rfl, hlo8, lt80 (by rw [List.length_map]; omega), ?_⟩
          refine ⟨as ++ [tm], ms ++ [⟨m.ps, e', []⟩], os ++ [o0], _, _, _, _, _, rfl, k18.mut nlo, ?_, ?_, ?_, ?_, ?_, ?_, ?_⟩
          · rw [upd_ne nflo]
            exact hlf8
          · exact paired_imp (fun _ _ z => z.up hlo8 (fun ys y => nomatch y) (fun b v y => nomatch y)) pm8
          · rw [upd_same, List.map_append] <;> rfl
          · rw [List.length_append, List.length_append, lom] <;> rfl
          · rw [List.length_append]
            show ms.length + 1 ≤ i + 1
            omega
          · intro x hx
            rcases List.mem_append.mp hx with hx | hx
            · exact okm x hx
            · rw [List.mem_singleton.mp hx]
              exact mok7
          · intro x hx
            rcases List.mem_append.mp hx with hx | hx
            · exact oko x hx
            · rw [List.mem_singleton.mp hx]
              exact ho0
      · rintro σ H4 ⟨as, ms, os, v7, v8, v9, v10, v11, rfl, k4, hlf, hpm, hlo, lom, lms, okm, oko⟩
        refine ⟨_, rfl, _, rfl, (by show 2 ≤ sizeLine; decide), fun t nt => ?_⟩
        have k5 : Kx H4 (upd H4 t (.tup [.ref lf, .ref lo])) := Kx.new nt
        exact q _ t lf lo ms os ((k1.trans k4).trans k5) upd_same ⟨⟨as, k5.lst hlf, paired_imp (fun _ _ z => z.k k5) hpm⟩, k5.lst hlo, k1.f _ nlf, k1.f _ nlo, nflo, lom, okm, oko⟩ (by omega)
end
end CH
end

section
set_option Elab.async false
set_option linter.all false
set_option maxRecDepth 100000
set_option maxHeartbeats 4000000
namespace CH
open PySem PySem.Spec PyProof.Rows L2
open GxR (TabB TabG Tabbed)
section
variable {P : Program} {w : World} {K : PySem.W.Frag} {mg : Str → Option Value} {base : Heap} {c aA cc cm : Addr}
abbrev st_hours_by : Stmt := top 37
abbrev nm_hours_by : List Str := ["words", "meeting", "coming", "answers"]
theorem sc_hours_by : FnScope nm_hours_by ["words", "meeting", "coming"] (defScope st_hours_by) := C8.fnScope_by (by decide +kernel)
def sp_hours_by (K : PySem.W.Frag) (cm cc : Addr) : Sp := fun vs H Q _ => ∃ (l a g : Addr) (ws : List Wd) (m : Mt) (cs : List Str), vs = [.ref l, .ref a, .ref g] ∧ Asked K H l ws a m cm cc ∧ SqT K H g (cs.map V.str) ∧
  ∀ (H' : Hp) (r : Addr), Kx H H' → H r = none → H' r = some (.lst ((hoursL m cs (ansF ws)).map V.int)) → Q (.ref r) H'
theorem ok_hours_by (D : DefT K mg "hours_by" st_hours_by c) (T : Tx K mg aA) (f_checked_words : C8.Cal P w K mg base 6 "checked_words" (sp_checked_words0 K) []) (f_check_meeting : C8.Cal P w K mg base 5 "check_meeting" (sp_check_meeting K cm) [])
    (f_answers_that_count : C8.Cal P w K mg base 1 "answers_that_count" (sp_answers_that_count K) []) (f_hours_of : C8.Cal P w K mg base 3 "hours_of" (sp_hours_of K cc) []) : C8.Cal P w K mg base 7 "hours_by" (sp_hours_by K cm cc) [] := by
  refine cal_of D sc_hours_by (fun _ _ _ _ _ _ us hl => match us, hl with | [_, _, _], _ => rfl) (fun vs H Q E h => ?_) (fun f A outer s H vs Q E hr h => ?_)
  · obtain ⟨l, a, g, ws, m, cs, rfl, _⟩ := h
    rfl
  · obtain ⟨l, a, g, ws, m, cs, rfl, ask, hg, q⟩ := h
    have nd := sc_hours_by.nd
    refine ⟨_, (pss_cons (ps_set (i := 3) nd rfl (Or.inl rfl) (C8.pe_c f_answers_that_count hr (by decide) (by rfl) (pa_cons (C8.pe_c f_checked_words hr (by decide) (by rfl) (pa_cons (pv 0) pa_nil)) pa_nil)))
      (pss_cons (ps_expr (C8.pe_c f_check_meeting hr (by decide) (by rfl) (pa_cons (pv 1) pa_nil)))
      (pss_one (ps_ret (C8.pe_c f_hours_of hr (by decide) (by rfl) (pa_cons (pv 1) (pa_cons (pv 3) (pa_cons (pv 2) pa_nil)))))))), ?_⟩
    refine ⟨_, rfl, l, ws, rfl, ask.hw, ask.h80, ask.ok, ask.al, fun H1 r1 ts us k1 nr1 hr1 ht1 ho => ?_⟩
    have lu : us.length ≤ 200 := by
      have := once_len ho
      have := ask.h80
      omega
    have alu : Alike us := fun a ha b hb => ask.al a ((ho.mem a).mp ha) b ((ho.mem b).mp hb)
    refine ⟨r1, ts, us, rfl, sq_of hr1, ht1, lu, alu, fun H2 d kvs k2 nd2 hd2 ha2 => ?_⟩
    have ask2 := ask.k (k1.trans k2)
    refine ⟨_, rfl, a, m, rfl, ask2.hm, ask2.mok, ask2.tm, fun H3 k3 => ?_⟩
    have k03 := (k1.trans k2).trans k3
    have ask3 := ask.k k03
    have ha3 : AnsD kvs (ansW ws) := fun p o => by
      rw [ha2 p o, isAns_uniq ask.al (isAns_once ho (ansW_is us p o)) (ansW_is ws p o)]
    refine ⟨_, rfl, _, rfl, _, rfl, a, d, g, m, kvs, ansW ws, cs, rfl, ask3.hm, rise_len8 ask.mok.p, k3.dt hd2, ha3, k03.t hg, ask3.tc, fun H4 r k4 nr hr4 => ?_⟩
    exact q H4 r (k03.trans k4) (k03.f _ nr) hr4
abbrev st_hours : Stmt := top 38
abbrev nm_hours : List Str := ["words", "meeting"]
theorem sc_hours : FnScope nm_hours ["words", "meeting"] (defScope st_hours) := C8.fnScope_by (by decide +kernel)
abbrev st_hours_maybe : Stmt := top 39
abbrev nm_hours_maybe : List Str := ["words", "meeting"]
theorem sc_hours_maybe : FnScope nm_hours_maybe ["words", "meeting"] (defScope st_hours_maybe) := C8.fnScope_by (by decide +kernel)
def sp_hours (K : PySem.W.Frag) (cm cc : Addr) (cs : List Str) : Sp := fun vs H Q _ => ∃ (l a : Addr) (ws : List Wd) (m : Mt), vs = [.ref l, .ref a] ∧ Asked K H l ws a m cm cc ∧
  ∀ (H' : Hp) (r : Addr), Kx H H' → H r = none → H' r = some (.lst ((hoursL m cs (ansF ws)).map V.int)) → Q (.ref r) H'
theorem ok_hours (D : DefT K mg "hours" st_hours c) (T : Tx K mg aA) (f_hours_by : C8.Cal P w K mg base 7 "hours_by" (sp_hours_by K cm cc) []) : C8.Cal P w K mg base 8 "hours" (sp_hours K cm cc ["yes"]) [] := by
  refine cal_of D sc_hours (fun _ _ _ _ _ _ us hl => match us, hl with | [_, _], _ => rfl) (fun vs H Q E h => ?_) (fun f A outer s H vs Q E hr h => ?_)
  · obtain ⟨l, a, ws, m, rfl, _⟩ := h
    rfl
  · obtain ⟨l, a, ws, m, rfl, ask, q⟩ := h
    refine ⟨_, (pss_one (ps_ret (C8.pe_c f_hours_by hr (by decide) (by rfl) (pa_cons (pv 0) (pa_cons (pv 1) (pa_cons (C8.pe_gc (by rfl) T.c_YES) pa_nil)))))), ?_⟩
    exact ⟨_, rfl, _, rfl, l, a, _, ws, m, ["yes"], rfl, ask, T.h_YES H, q⟩
theorem ok_hours_maybe (D : DefT K mg "hours_maybe" st_hours_maybe c) (T : Tx K mg aA) (f_hours_by : C8.Cal P w K mg base 7 "hours_by" (sp_hours_by K cm cc) []) : C8.Cal P w K mg base 8 "hours_maybe" (sp_hours K cm cc ["yes", "maybe"]) [] := by
  refine cal_of D sc_hours_maybe (fun _ _ _ _ _ _ us hl => match us, hl with | [_, _], _ => rfl) (fun vs H Q E h => ?_) (fun f A outer s H vs Q E hr h => ?_)
  · obtain ⟨l, a, ws, m, rfl, _⟩ := h
    rfl
  · obtain ⟨l, a, ws, m, rfl, ask, q⟩ := h
    refine ⟨_, (pss_one (ps_ret (C8.pe_c f_hours_by hr (by decide) (by rfl) (pa_cons (pv 0) (pa_cons (pv 1) (pa_cons (C8.pe_gc (by rfl) T.c_YES_OR_MAYBE) pa_nil)))))), ?_⟩
    exact ⟨_, rfl, _, rfl, l, a, _, ws, m, ["yes", "maybe"], rfl, ask, T.h_YES_OR_MAYBE H, q⟩
end
end CH
end

section
set_option Elab.async false
set_option linter.all false
set_option maxRecDepth 100000
set_option maxHeartbeats 4000000
namespace CH
open PySem PySem.Spec PyProof.Rows L2
/-- a number drawn from the script, by the turn -/
theorem drawn {K K1 K2 : PySem.W.Frag} {i0 i1 i4 : Nat} {σ : L2.St} {H : Hp} {Q : VK} {a : Addr} {ns : List Int} {j wh : Int} (e1 : K1 = K) (e2 : K2 = K) (h0 : σ[i0]? = some (some (.ref a))) (h4 : σ[i4]? = some (some (.int j))) (h1 : σ[i1]? = some (some (.int wh))) (ha : SqL K H a (ns.map V.int)) (hb : ∀ z ∈ ns, Bits z 1100000) (j0 : 0 ≤ j) (j1 : j ≤ 1000)
    (q : ∀ (n : Int) (H' : Hp), 0 ≤ n → Kx H H' → Q (.int n) H') :
    tOp (rI CDiv fun i j => V.int (i / j)) (tCB (fun xs H Q => ∃ i, xs = [V.int i] ∧ Q (V.int (if i < 0 then -i else i)) H) (tCons (tCall sp_law_number [] C8.E0 (tCons (tIf (tTest (tOp (rNeD K1) (tVar i0) (tLst tNil)))
      (tOp (rIxL K1) (tVar i0) (tOp (rI (fun x j => 0 < j) fun i j => V.int (i % j)) (tVar i4) (tCB (fun xs H_1 Q => ∃ p ys, xs = [V.ref p] ∧ (SqL K2 H_1 p ys ∨ SqT K2 H_1 p ys) ∧ Q (V.int (ys.length : Int)) H_1) (tCons (tVar i0) tNil)))) (tC (.int 5)))
      (tCons (tOp (rI0 fun i j => V.int (i + j)) (tVar i4) (tC (.int 40))) (tCons (tVar i1) tNil)))) tNil)) (tC (.int 3)) σ H Q := by
  subst e1 e2
  refine ⟨_, h0, Nat.zero_le _, fun z nz => ?_⟩
  have kz : Kx H (upd H z (.lst [])) := Kx.new nz
  have hz : (upd H z (.lst [])) z = some (.lst (([] : List Int).map V.int)) := upd_same
  generalize upd H z (.lst []) = H7 at kz hz ⊢
  refine ⟨isD ns, isD [], isD_dp (kz.l ha), isD_dp (sq_of hz), isD_sh ns, isD_sh [], _, rfl, ?_⟩
  rw [isD_eqv]
  by_cases e : ns = []
  · rw [decide_eq_true e]
    refine iteF ?_
    refine ⟨_, h4, _, _, rfl, rfl, _, h1, 5, _, _, rfl, (Bits.of (by decide) (by decide) : Bits 5 10).mono (by decide), by omega, by omega, fun rr => ⟨_, rfl, _, _, rfl, rfl, ⟨by decide, by decide⟩, ?_⟩⟩
    exact q _ _ (Int.ediv_nonneg (abs_nn rr) (by decide)) kz
  · rw [decide_eq_false e]
    have hlen : (0 : Int) < ((ns.map V.int).length : Int) := by
      rw [List.length_map]
      have := List.length_pos_iff.mpr e
      omega
    have m0 := Int.emod_nonneg j (show ((ns.map V.int).length : Int) ≠ 0 by omega)
    have m1 := Int.emod_lt_of_pos j hlen
    obtain ⟨cv, hcv, hcm⟩ := at_small (xs := ns.map V.int) m0 m1
    obtain ⟨ce, hce, rfl⟩ := List.mem_map.mp hcm
    refine iteT ⟨_, h0, _, h4, _, h0, a, _, rfl, .inl (kz.l ha), _, _, rfl, rfl, hlen, a, _, _, _, rfl, rfl, kz.l ha, hcv, ?_⟩
    refine ⟨_, h4, _, _, rfl, rfl, _, h1, ce, _, _, rfl, (hb ce hce).mono (by decide), by omega, by omega, fun rr => ⟨_, rfl, _, _, rfl, rfl, ⟨by decide, by decide⟩, ?_⟩⟩
    exact q _ _ (Int.ediv_nonneg (abs_nn rr) (by decide)) kz
end CH
end

section
set_option Elab.async false
set_option linter.all false
set_option maxRecDepth 100000
set_option maxHeartbeats 4000000
namespace CH
open PySem PySem.Spec PyProof.Rows L2
open GxR (TabB TabG Tabbed)
section
variable {P : Program} {w : World} {K : PySem.W.Frag} {mg : Str → Option Value} {base : Heap} {c aA cc cm cMo cTi : Addr}
def kW2 : List Wd := [⟨1, 0, 0, 0, "yes"⟩, ⟨1, 1, 0, 0, "no"⟩]
def kM2 : Mt := ⟨[0], 1, []⟩
theorem kW2_ok : ∀ x ∈ kW2, x.ok := by
  intro x hx
  unfold kW2 at hx
  simp only [List.mem_cons, List.not_mem_nil, or_false] at hx
  unfold Wd.ok
  rcases hx with rfl | rfl <;> exact ⟨by decide, by decide, by decide, by decide, by decide, by decide, by decide, by decide, by decide⟩
theorem kW2_al : Alike kW2 := by
  unfold Alike kW2
  decide +kernel
theorem kM2_ok : kM2.ok := ⟨⟨by decide, by decide, trivial⟩, trivial, by decide, by decide, fun x hx => absurd hx (by simp [kM2])⟩
theorem cut24 (w : Wd) : cutV w.V (some 2) (some 4) = [w.p, w.o].map V.int := by
  unfold cutV
  rw [show HT.sIx w.V.length 0 (some 2) = min 2 w.V.length from HT.sIx_nat w.V.length 0 2, show HT.sIx w.V.length w.V.length (some 4) = min 4 w.V.length from HT.sIx_nat w.V.length w.V.length 4]
  rfl
theorem not_whole24 (w : Wd) : ¬ (HT.sIx w.V.length 0 (some 2) = 0 ∧ HT.sIx w.V.length w.V.length (some 4) = w.V.length) := by
  rw [show HT.sIx w.V.length 0 (some 2) = min 2 w.V.length from HT.sIx_nat w.V.length 0 2]
  intro h
  have h2 : (2 : Nat) = 0 := h.1
  exact absurd h2 (by decide)
theorem rise_drop {b : Int} {ns : List Int} (h : Rise b ns) : Rise b (ns.drop 1) := by
  cases ns with
  | nil => exact h
  | cons n ns =>
    obtain ⟨a1, a2, a3⟩ := h
    cases ns with
    | nil => exact trivial
    | cons k ns =>
      obtain ⟨b1, b2, b3⟩ := a3
      exact ⟨by omega, b2, b3⟩
theorem slA_drop {K : PySem.W.Frag} {H : Hp} {a : Addr} {xs : List Int} {Q : VK} (h : SqT K H a (xs.map V.int)) (q : ∀ (p : Addr) (G : Hp), Kx H G → SqT K G p ((xs.drop 1).map V.int) → Q (.ref p) G) : rSlA K (.ref a) (some 1) none H Q := by
  refine ⟨a, _, rfl, h, fun e => ?_, fun _ p np => ?_⟩
  · have e1 := e.1
    rw [show HT.sIx (xs.map V.int).length 0 (some 1) = min 1 (xs.map V.int).length from HT.sIx_nat _ 0 1, List.length_map] at e1
    have : xs = [] := List.length_eq_zero_iff.mp (by omega)
    subst this
    exact q a H (Kx.refl H) h
  · rw [show (some (1 : Int)) = some ((1 : Nat) : Int) from rfl, cutV_drop, ← List.map_drop]
    exact q p _ (Kx.new np) (st_of upd_same)
theorem more_word {i i9 i10 : Nat} {σ : L2.St} {H : Hp} {Q : VK} {r : Addr} {ts : List Addr} {ws : List Wd} {c h p o : Int} {a : Str} (h0 : σ[i]? = some (some (.ref r))) (h9 : σ[i9]? = some (some (.int p))) (h10 : σ[i10]? = some (some (.int o))) (hr : H r = some (.lst (ts.map V.ref))) (ht : TAt H ts ws) (l : ws.length ≤ 100)
    (q : ∀ (H' : Hp) (r' : Addr) (ts' : List Addr), Kx H H' → H' r' = some (.lst (ts'.map V.ref)) → TAt H' ts' (ws ++ [⟨c, h, p, o, a⟩]) → Q (.ref r') H') :
    tOp rCat (tVar i) (tLst (tCons (tTup (tCons (tC (.int c)) (tCons (tC (.int h)) (tCons (tVar i9) (tCons (tVar i10) (tCons (tC (.str a)) tNil)))))) tNil)) σ H Q := by
  have lts := paired_len ht
  refine ⟨_, h0, _, h9, _, h10, (by show 5 ≤ sizeLine; decide), fun t nt => ?_⟩
  have k1 : Kx H (upd H t (.tup (Wd.V ⟨c, h, p, o, a⟩))) := Kx.new nt
  have e1 : (upd H t (.tup (Wd.V ⟨c, h, p, o, a⟩))) t = some (.tup (Wd.V ⟨c, h, p, o, a⟩)) := upd_same
  refine ⟨(by show 1 ≤ sizeLine; decide), fun z nz => ?_⟩
  rw [show ([.int c, .int h, .int p, .int o, .str a] : List V) = Wd.V ⟨c, h, p, o, a⟩ from rfl] at nz ⊢
  generalize upd H t (.tup (Wd.V ⟨c, h, p, o, a⟩)) = H1 at k1 e1 nz ⊢
  have k2 : Kx H1 (upd H1 z (.lst ([t].map V.ref))) := Kx.new nz
  have e2 : (upd H1 z (.lst ([t].map V.ref))) z = some (.lst ([t].map V.ref)) := upd_same
  rw [show ([.ref t] : List V) = [t].map V.ref from rfl]
  generalize upd H1 z (.lst ([t].map V.ref)) = H2 at k2 e2 ⊢
  have k02 := k1.trans k2
  refine ⟨r, z, _, _, rfl, rfl, k02.lst hr, e2, by rw [List.length_map, List.length_map]; show _ + 1 ≤ sizeLine; exact small80 (by omega), fun y ny => ?_⟩
  rw [← List.map_append]
  have k3 : Kx H2 (upd H2 y (.lst ((ts ++ [t]).map V.ref))) := Kx.new ny
  exact q _ y (ts ++ [t]) (k02.trans k3) upd_same (paired_snoc (ht.k (k02.trans k3)) ((k2.trans k3).tup e1))
abbrev st_law : Stmt := top 64
abbrev nm_law : List Str := ["_law_script", "_law_whole", "_law_by", "_law_words_here", "_law_word", "_law_number_here", "_law_people", "_law_enough", "_law_needed", "_law_person", "_law_hour", "_law_meeting_here", "_law_here", "_law_yes", "_law_no", "_law_maybe", "_law_known", "_law_meetings_here", "_law_olds"]
theorem sc_law : FnScope nm_law ["_law_script"] (defScope st_law) := C8.fnScope_by (by decide +kernel)
def sp_law (K : PySem.W.Frag) (cm cc : Addr) : Sp := fun vs H Q _ => ∃ (a : Addr) (ns : List Int), vs = [.ref a] ∧ SqL K H a (ns.map V.int) ∧ ns.length ≤ 63 ∧ (∀ z ∈ ns, Bits z 1100000) ∧ TabG H cm ∧ TabG H cc ∧ ∀ H' : Hp, Q (.bl true) H'
theorem ok_law (T : Tx K mg aA)
    (f__law_number : C8.Cal P w K mg base 1 "_law_number" sp_law_number []) (f__law_words : C8.Cal P w K mg base 2 "_law_words" (sp_law_words K) []) (f__law_meeting : C8.Cal P w K mg base 1 "_law_meeting" (sp_law_meeting K) []) (f__law_meetings : C8.Cal P w K mg base 2 "_law_meetings" (sp_law_meetings K) [])
    (f__law_in : C8.Cal P w K mg base 1 "_law_in" (sp_law_in K) []) (f_hours : C8.Cal P w K mg base 8 "hours" (sp_hours K cm cc ["yes"]) []) (f_hours_maybe : C8.Cal P w K mg base 8 "hours_maybe" (sp_hours K cm cc ["yes", "maybe"]) []) (f__law_table_right : C8.Cal P w K mg base 8 "_law_table_right" (sp_law_table_right K cm cc) [])
    {fa : Addr} {A : Around} {outer : List Env} {s : Shared} {H : Hp} {vs : List V} {Q : VK} {E : XK} (hr : Room 9 (A.deeper (envOfC "law" (defScope st_law) s.heap.objs.size fa (.ref c)))) (h : sp_law K cm cc vs H Q E) :
    ∃ t, PSs (cxOf CX0 P w K mg base nm_law "law" (defScope st_law) fa (.ref c) A outer s H E).nox (defBody st_law) t ∧ t { nx := fun _ H' => Q .non H', rt := Q } (L2.start nm_law vs) H := by
  obtain ⟨a, ns, rfl, ha, h63, hb, tm, tc, q⟩ := h
  have nd := sc_law.nd
  have hu := hu_of hr
  refine ⟨_, (pss_cons (ps_set (i := 1) nd rfl (Or.inl rfl) (pe_callB call_abs (by rfl) T.z_abs (by decide +kernel) (pa_cons (pe_callB (cr_sum rfl) (by rfl) T.z_sum (by decide +kernel) (pa_cons (pe_slice sl_list (pv 0) po_none (po_some pe_int)) pa_nil)) pa_nil)))
      (pss_cons (ps_for PassesOwn.never rfl (pi_list (pe_lst (pa_cons pe_int (pa_cons pe_int (pa_cons pe_int pa_nil))))) (pg_name (i := 2) nd rfl (Or.inl rfl)) (pss_cons (ps_setLc (i := 3) (own := [("_law_word", 4)]) (g := gName 4) (by rfl) nd rfl rfl (sw_true rfl rfl rfl (by decide +kernel)) (pi_list (C8.pe_c f__law_words hr (by decide) (by rfl) (pa_cons (pv 0) (pa_cons (pv 2) (pa_cons pe_int pa_nil))))) (blkOk_by (own := [("_law_word", 4)]) (N := nm_law) (sc := defScope st_law) (by decide +kernel)) (fun _ _ _ _ _ => pg_name (i := 4) nd rfl (Or.inl rfl)) (fun _ _ _ _ _ => pts_one (PW.pt (pw_and (pt_cmpR op_lt (pe_ix (show IxR _ (rIxT K) from ix_tup) (pv 4) pe_int (fun _ _ => rfl)) pe_int (nomark _)) (pw_and1 (pt_cmpR op_gt (pe_ix (show IxR _ (rIxT K) from ix_tup) (pv 4) pe_int (fun _ _ => rfl)) pe_int (nomark _)))))) (fun _ _ _ _ _ => (pv 4)))
      (pss_cons (ps_set (i := 5) nd rfl (Or.inl rfl) (pe_op op_fdiv (pe_callB call_abs (by rfl) T.z_abs (by decide +kernel) (pa_cons (C8.pe_c f__law_number hr (by decide) (by rfl) (pa_cons (pe_ifExp (pt_cmpR (op_neD hr.units) (pv 0) (pe_lst pa_nil) (nomark _)) (pe_ix ix_list (pv 0) (pe_op op_mod (pv 2) (pe_callB call_len_seq (by rfl) T.z_len PySem.boot_len (pa_cons (pv 0) pa_nil))) (fun _ _ => rfl)) pe_int) (pa_cons (pe_op op_add (pv 2) pe_int) (pa_cons (pv 1) pa_nil)))) pa_nil)) pe_int))
      (pss_cons (ps_asg (C8.pe_c f__law_meeting hr (by decide) (by rfl) (pa_cons (pv 5) pa_nil)) (pg_tup (by rfl) (pgs_cons (pg_name (i := 6) nd rfl (Or.inl rfl)) (pgs_cons (pg_name (i := 7) nd rfl (Or.inl rfl)) (pgs_cons (pg_name (i := 8) nd rfl (Or.inl rfl)) pgs_nil)))))
      (pss_cons (ps_asg (pe_tup (pa_cons (pe_ix ix_tup (pv 6) (pe_op op_mod (pe_op op_fdiv (pv 1) pe_int) (pe_callB call_len_seq (by rfl) T.z_len PySem.boot_len (pa_cons (pv 6) pa_nil))) (fun _ _ => rfl)) (pa_cons (pe_op op_mod (pe_op op_fdiv (pv 1) pe_int) pe_int) pa_nil))) (pg_tup (by rfl) (pgs_cons (pg_name (i := 9) nd rfl (Or.inr rfl)) (pgs_cons (pg_name (i := 10) nd rfl (Or.inr rfl)) pgs_nil))))
      (pss_cons (ps_set (i := 11) nd rfl (Or.inl rfl) (pe_tup (pa_cons (pv 6) (pa_cons (pv 7) (pa_cons (pv 8) pa_nil)))))
      (pss_cons (ps_set (i := 12) nd rfl (Or.inl rfl) (C8.pe_c f_hours hr (by decide) (by rfl) (pa_cons (pv 3) (pa_cons (pv 11) pa_nil))))
      (pss_cons (ps_set (i := 13) nd rfl (Or.inl rfl) (C8.pe_c f_hours hr (by decide) (by rfl) (pa_cons (pe_op op_cat (pv 3) (pe_lst (pa_cons (pe_tup (pa_cons pe_int (pa_cons pe_int (pa_cons (pv 9) (pa_cons (pv 10) (pa_cons pe_str pa_nil)))))) pa_nil))) (pa_cons (pv 11) pa_nil))))
      (pss_cons (ps_set (i := 14) nd rfl (Or.inl rfl) (C8.pe_c f_hours hr (by decide) (by rfl) (pa_cons (pe_op op_cat (pv 3) (pe_lst (pa_cons (pe_tup (pa_cons pe_int (pa_cons pe_int (pa_cons (pv 9) (pa_cons (pv 10) (pa_cons pe_str pa_nil)))))) pa_nil))) (pa_cons (pv 11) pa_nil))))
      (pss_cons (ps_set (i := 15) nd rfl (Or.inl rfl) (pe_op op_cat (pv 3) (pe_lst (pa_cons (pe_tup (pa_cons pe_int (pa_cons pe_int (pa_cons (pv 9) (pa_cons (pv 10) (pa_cons pe_str pa_nil)))))) pa_nil))))
      (pss_cons (ps_if (PW.pt (pw_or (pt_not (pt_val (C8.pe_c f__law_in hr (by decide) (by rfl) (pa_cons (pv 12) (pa_cons (pv 13) pa_nil))))) (pw_or (pt_not (pt_val (C8.pe_c f__law_in hr (by decide) (by rfl) (pa_cons (pv 14) (pa_cons (pv 12) pa_nil))))) (pw_or1 (pt_not (pt_val (C8.pe_c f__law_in hr (by decide) (by rfl) (pa_cons (pv 13) (pa_cons (pe_op op_cat (pv 12) (pe_lst (pa_cons (pv 10) pa_nil))) pa_nil))))))))) (pss_one (ps_ret pe_bl)) pss_nil)
      (pss_cons (ps_if (pt_cmpR (op_neD hr.units) (C8.pe_c f_hours hr (by decide) (by rfl) (pa_cons (pv 15) (pa_cons (pv 11) pa_nil))) (pv 14) (nomark _)) (pss_one (ps_ret pe_bl)) pss_nil)
      (pss_cons (ps_if (pt_cmpR (op_neD hr.units) (C8.pe_c f_hours_maybe hr (by decide) (by rfl) (pa_cons (pv 15) (pa_cons (pv 11) pa_nil))) (C8.pe_c f_hours_maybe hr (by decide) (by rfl) (pa_cons (pe_op op_cat (pv 3) (pe_lst (pa_cons (pe_tup (pa_cons pe_int (pa_cons pe_int (pa_cons (pv 9) (pa_cons (pv 10) (pa_cons pe_str pa_nil)))))) pa_nil))) (pa_cons (pv 11) pa_nil))) (nomark _)) (pss_one (ps_ret pe_bl)) pss_nil)
      (pss_cons (ps_setLc (i := 16) (own := [("_law_word", 4)]) (g := gName 4) (by rfl) nd rfl rfl (sw_true rfl rfl rfl (by decide +kernel)) (pi_list (pv 3)) (blkOk_by (own := [("_law_word", 4)]) (N := nm_law) (sc := defScope st_law) (by decide +kernel)) (fun _ _ _ _ _ => pg_name (i := 4) nd rfl (Or.inl rfl)) (fun _ _ _ _ _ => pts_one (pt_cmpR (show OpR _ _ (rEqD K) from op_eqD hr.units) (pe_slice (show SlR _ (rSlT K) from sl_tup) (pv 4) (po_some pe_int) (po_some pe_int)) (pe_tup (pa_cons (pv 9) (pa_cons (pv 10) pa_nil))) (nomark _))) (fun _ _ _ _ _ => (pv 4)))
      (pss_cons (ps_if (PW.pt (pw_and (pt_cmpR (op_neD hr.units) (pv 16) (pe_lst pa_nil) (nomark _)) (pw_and1 (pt_cmpR (op_neD hr.units) (C8.pe_c f_hours hr (by decide) (by rfl) (pa_cons (pe_op op_cat (pv 3) (pe_lst (pa_cons (pe_tup (pa_cons pe_int (pa_cons pe_int (pa_cons (pv 9) (pa_cons (pv 10) (pa_cons pe_str pa_nil)))))) pa_nil))) (pa_cons (pv 11) pa_nil))) (pv 12) (nomark _))))) (pss_one (ps_ret pe_bl)) pss_nil)
      (pss_cons (ps_if (pt_not (pt_val (C8.pe_c f__law_in hr (by decide) (by rfl) (pa_cons (pv 12) (pa_cons (C8.pe_c f_hours hr (by decide) (by rfl) (pa_cons (pv 3) (pa_cons (pe_tup (pa_cons (pv 6) (pa_cons (pv 7) (pa_cons (pe_slice sl_tupA (pv 8) (po_some pe_int) po_none) pa_nil)))) pa_nil))) pa_nil))))) (pss_one (ps_ret pe_bl)) pss_nil)
      (pss_cons (ps_if (pt_not (pt_val (C8.pe_c f__law_in hr (by decide) (by rfl) (pa_cons (pv 12) (pa_cons (C8.pe_c f_hours hr (by decide) (by rfl) (pa_cons (pv 3) (pa_cons (pe_tup (pa_cons (pv 6) (pa_cons pe_int (pa_cons (pv 8) pa_nil)))) pa_nil))) pa_nil))))) (pss_one (ps_ret pe_bl)) pss_nil)
      (pss_cons (ps_asg (C8.pe_c f__law_meetings hr (by decide) (by rfl) (pa_cons (pv 0) (pa_cons (pv 2) (pa_cons pe_int pa_nil)))) (pg_tup (by rfl) (pgs_cons (pg_name (i := 17) nd rfl (Or.inl rfl)) (pgs_cons (pg_name (i := 18) nd rfl (Or.inl rfl)) pgs_nil))))
      (pss_one (ps_if (pt_not (pt_val (C8.pe_c f__law_table_right hr (by decide) (by rfl) (pa_cons (pv 3) (pa_cons (pv 17) (pa_cons (pv 18) (pa_cons (pv 1) pa_nil))))))) (pss_one (ps_ret pe_bl)) pss_nil))))))))))))))))))))
      (pss_one (ps_ret (pe_cmpR (op_eqD hr.units) (C8.pe_c f_hours hr (by decide) (by rfl) (pa_cons (pl_lst (pls_cons (pl_tup (pls_cons pl_int (pls_cons pl_int (pls_cons pl_int (pls_cons pl_int (pls_cons pl_str pls_nil)))))) (pls_cons (pl_tup (pls_cons pl_int (pls_cons pl_int (pls_cons pl_int (pls_cons pl_int (pls_cons pl_str pls_nil)))))) pls_nil))) (pa_cons (pl_tup (pls_cons (pl_tup (pls_cons pl_int pls_nil)) (pls_cons pl_int (pls_cons (pl_tup pls_nil) pls_nil)))) pa_nil))) (pe_lst pa_nil) (nomark _)))))), ?_⟩
  refine ⟨_, rfl, 63, rfl, a, _, rfl, ha, fun p np => ?_⟩
  rw [cut63 h63]
  have k1 : Kx H (upd H p (.lst (ns.map V.int))) := Kx.new np
  have hp : (upd H p (.lst (ns.map V.int))) p = some (.lst (ns.map V.int)) := upd_same
  generalize upd H p (.lst (ns.map V.int)) = H1 at k1 hp ⊢
  refine ⟨p, ns, rfl, sq_of hp, _, rfl, ?_⟩
  dsimp (config := { proj := false, failIfUnchanged := false }) only
  generalize (if ns.sum < 0 then -ns.sum else ns.sum) = wh
  refine ⟨(by show 3 ≤ sizeLine; decide), fun q3 nq3 => ?_⟩
  rw [show ([.int 0, .int 1, .int 2] : List V) = ([0, 1, 2] : List Int).map V.int from rfl]
  have k2 : Kx H1 (upd H1 q3 (.lst (([0, 1, 2] : List Int).map V.int))) := Kx.new nq3
  have hq3 : (upd H1 q3 (.lst (([0, 1, 2] : List Int).map V.int))) q3 = some (.lst (([0, 1, 2] : List Int).map V.int)) := upd_same
  generalize upd H1 q3 (.lst (([0, 1, 2] : List Int).map V.int)) = H2 at k2 hq3 ⊢
  have k02 := k1.trans k2
  refine ⟨q3, rfl, ⟨_, sq_of hq3⟩, for_list (K := K) (a := q3) (xs := ([0, 1, 2] : List Int).map V.int) (fun i σ Hx => ∃ (v2 v3 v4 v5 v6 v7 v8 v9 v10 v11 v12 v13 v14 v15 v16 v17 v18 : Option V), σ = [some (.ref a), some (.int wh), v2, v3, v4, v5, v6, v7, v8, v9, v10, v11, v12, v13, v14, v15, v16, v17, v18] ∧ Kx H2 Hx)
    ⟨none, none, none, none, none, none, none, none, none, none, none, none, none, none, none, none, none, rfl, Kx.refl H2⟩ (fun i σ Hx _ h => by obtain ⟨_, _, _, _, _, _, _, _, _, _, _, _, _, _, _, _, _, _, kx⟩ := h; exact kx.l (sq_of hq3)) ?_ ?_⟩
  · rintro i y σ Hx hi ⟨v2, v3, v4, v5, v6, v7, v8, v9, v10, v11, v12, v13, v14, v15, v16, v17, v18, rfl, kx⟩
    obtain ⟨b, hb3, rfl⟩ : ∃ b, ([0, 1, 2] : List Int)[i]? = some b ∧ V.int b = y := by
      rw [List.getElem?_map] at hi
      exact Option.map_eq_some_iff.mp hi
    have hbm := List.mem_of_getElem? hb3
    simp only [List.mem_cons, List.not_mem_nil, or_false] at hbm
    have k03 := k02.trans kx
    refine ⟨_, rfl, _, rfl, a, ns, b, 60, rfl, k03.l ha, h63, hb, by omega, by omega, by decide, fun H5 r ts ws k5 nr hr5 ht5 h60 ok5 df5 => ?_⟩
    have k04 := k03.trans k5
    have len5 := paired_len ht5
    refine ⟨r, rfl, ⟨_, sq_of hr5⟩, fun D0 nD => ?_⟩
    refine lc_list (K := K) (a := r) (xs := ts.map V.ref) (fun j H6 => Kx H5 H6 ∧ ∃ us : List Addr, H6 D0 = some (.lst (us.map V.ref)) ∧ TAt H6 us ((ws.take j).filter fun x => decide (x.c < 99) && decide (1 < x.c)) ∧ us.length ≤ j)
      ⟨Kx.new nD, [], upd_same, .nil, Nat.le_refl _⟩ (fun j H6 _ h => h.1.l (sq_of hr5)) ?_ ?_
    · rintro j y H6 hj ⟨k6, us, hD6, hus, lus⟩
      obtain ⟨t, ht, rfl⟩ : ∃ t, ts[j]? = some t ∧ V.ref t = y := by
        rw [List.getElem?_map] at hj
        exact Option.map_eq_some_iff.mp hj
      obtain ⟨x, hx, hxt⟩ := paired_at (ht5.k k6) ht
      have hjl : j < ts.length := (List.getElem?_eq_some_iff.mp ht).1
      have e1 : ws.take (j + 1) = ws.take j ++ [x] := by rw [List.take_add_one, hx] <;> rfl
      refine ⟨rfl, ?_⟩
      have ix : atI x.V 0 = some (.int x.c) := atI_nat (xs := x.V) (j := 0) rfl
      have big : us.length < 100000 := by omega
      refine ⟨_, rfl, t, _, 0, .int x.c, rfl, rfl, st_of hxt, ix, _, _, rfl, rfl, _, rfl, ?_⟩
      dsimp only
      by_cases c1 : x.c < 99
      · rw [decide_eq_true c1]
        refine iteT ⟨_, rfl, t, _, 0, .int x.c, rfl, rfl, st_of hxt, ix, _, _, rfl, rfl, _, rfl, ?_⟩
        dsimp only
        by_cases c2 : 1 < x.c
        · rw [decide_eq_true c2]
          refine iteT ⟨_, rfl, _, hD6, by rw [List.length_map]; exact lt80 big, k6.mut nD, us ++ [t], by rw [upd_same, List.map_append] <;> rfl, ?_, by rw [List.length_append]; show _ + 1 ≤ _; omega⟩
          rw [e1, filter_snoc, if_pos (by rw [decide_eq_true c1, decide_eq_true c2]; rfl)]
          exact paired_snoc (hus.up hD6 fun ys y => nomatch y) (by rw [upd_ne (fun e => by rw [e, hD6] at hxt; cases hxt)]; exact hxt)
        · rw [decide_eq_false c2]
          refine iteF ⟨k6, us, hD6, ?_, by omega⟩
          rw [e1, filter_snoc, if_neg (by rw [decide_eq_false c2, Bool.and_false]; exact Bool.false_ne_true), List.append_nil]
          exact hus
      · rw [decide_eq_false c1]
        refine iteF ?_
        refine iteF ⟨k6, us, hD6, ?_, by omega⟩
        rw [e1, filter_snoc, if_neg (by rw [decide_eq_false c1, Bool.false_and]; exact Bool.false_ne_true), List.append_nil]
        exact hus
    · rintro H6 ⟨k6, us, hD6, hus, lus⟩
      rw [List.length_map, len5, List.take_length] at hus
      rw [List.length_map] at lus
      have fok : ∀ x ∈ ws.filter (fun x => decide (x.c < 99) && decide (1 < x.c)), x.ok ∧ 1 < x.c ∧ x.c < 99 := fun x hx => by
        obtain ⟨a1, a2⟩ := List.mem_filter.mp hx
        rw [Bool.and_eq_true] at a2
        exact ⟨ok5 x a1, of_decide_eq_true a2.2, of_decide_eq_true a2.1⟩
      have fal : Alike (ws.filter (fun x => decide (x.c < 99) && decide (1 < x.c))) := alike_sub df5.alike fun x hx => (List.mem_filter.mp hx).1
      have f60 : (ws.filter (fun x => decide (x.c < 99) && decide (1 < x.c))).length ≤ 60 := Nat.le_trans (List.length_filter_le _ _) (by omega)
      generalize (ws.filter (fun x => decide (x.c < 99) && decide (1 < x.c))) = fs at hus fok fal f60
      have k46 := k04.trans k6
      refine drawn (K := K) (i0 := 0) (i1 := 1) (i4 := 2) (j := b) (wh := wh) rfl rfl ?f0 ?f4 ?f1 (k46.l ha) hb (by omega) (by omega) fun n H7 n0 k7 => ?_
      case f0 => rfl
      case f4 => rfl
      case f1 => rfl
      refine ⟨_, rfl, n, rfl, n0, fun H8 am m k8 hm mok => ?_⟩
      obtain ⟨pm, nm, hma, hmp, hmn⟩ := hm.ex
      refine ⟨am, _, rfl, hma, rfl, _, _, rfl, _, _, rfl, _, _, rfl, rfl, ?_⟩
      have k48 := (k46.trans k7).trans k8
      have e1 := mok.e1
      have e2 := mok.e2
      have hlen : (0 : Int) < ((m.ps.map V.int).length : Int) := by rw [List.length_map]; omega
      obtain ⟨cv, hcv, hcm⟩ := at_small (xs := m.ps.map V.int) (i := wh / 5 % ((m.ps.map V.int).length : Int)) (Int.emod_nonneg _ (by omega)) (Int.emod_lt_of_pos _ hlen)
      obtain ⟨per, hper, rfl⟩ := List.mem_map.mp hcm
      have p0 := rise_gt mok.p per hper
      have p7 : per ≤ 7 := by
        obtain ⟨i, hi⟩ := List.mem_iff_getElem?.mp hper
        exact (rise_at mok.p hi).2
      refine ⟨_, rfl, _, rfl, _, _, rfl, rfl, ⟨by decide, by decide⟩, _, rfl, pm, _, rfl, .inr hmp, _, _, rfl, rfl, hlen, pm, _, _, _, rfl, rfl, hmp, hcv, ?_⟩
      refine ⟨_, rfl, _, _, rfl, rfl, ⟨by decide, by decide⟩, _, _, rfl, rfl, (by show (0 : Int) < 12; decide), (by show 2 ≤ sizeLine; decide), fun tt ntt => ?_⟩
      have q0 : 0 ≤ wh / 40 % 12 := Int.emod_nonneg _ (by decide)
      have q12 : wh / 40 % 12 < 12 := Int.emod_lt_of_pos _ (by decide)
      dsimp (config := { proj := false, failIfUnchanged := false }) only
      generalize wh / 40 % 12 = hou at q0 q12 ⊢
      have k9 : Kx H8 (upd H8 tt (.tup [.int per, .int hou])) := Kx.new ntt
      have htt : (upd H8 tt (.tup [.int per, .int hou])) tt = some (.tup [.int per, .int hou]) := upd_same
      generalize upd H8 tt (.tup [.int per, .int hou]) = H9 at k9 htt ⊢
      refine ⟨tt, _, rfl, st_of htt, rfl, _, _, rfl, _, _, rfl, rfl, ?_⟩
      refine ⟨_, rfl, _, rfl, _, rfl, (by show 3 ≤ sizeLine; decide), fun mt nmt => ?_⟩
      have k10 : Kx H9 (upd H9 mt (.tup [.ref pm, .int m.e, .ref nm])) := Kx.new nmt
      have hmt : (upd H9 mt (.tup [.ref pm, .int m.e, .ref nm])) mt = some (.tup [.ref pm, .int m.e, .ref nm]) := upd_same
      generalize upd H9 mt (.tup [.ref pm, .int m.e, .ref nm]) = H10 at k10 hmt ⊢
      have k910 := k9.trans k10
      have hM : MAt K H10 mt m := ⟨pm, nm, st_of hmt, k910.t hmp, k910.t hmn⟩
      have k6A := ((k7.trans k8).trans k9).trans k10
      have hDA := k6A.lst hD6
      have husA := hus.k k6A
      have kA := k48.trans k910
      have tmA := kA.g _ tm
      have tcA := kA.g _ tc
      have lus := paired_len husA
      have ask0 : ∀ {G : Hp}, Kx H10 G → Asked K G D0 fs mt m cm cc := fun k => ⟨⟨us, sq_of (k.lst hDA), (husA.k k).w⟩, by omega, fun x hx => (fok x hx).1, fal, hM.k k, mok, k.g _ tmA, k.g _ tcA⟩
      have ask1 : ∀ {G : Hp} {r' : Addr} {ts' : List Addr} {cnt h : Int} {an : Str}, Kx H10 G → G r' = some (.lst (ts'.map V.ref)) → TAt G ts' (fs ++ [⟨cnt, h, per, hou, an⟩]) → 1 ≤ cnt → cnt ≤ 99 → 0 ≤ h → h ≤ 3 → an ∈ ansL → (∀ x ∈ fs, x.c ≠ cnt) → Asked K G r' (fs ++ [⟨cnt, h, per, hou, an⟩]) mt m cm cc := fun k h1 h2 c1 c2 c3 c4 c5 c6 =>
        ⟨⟨_, sq_of h1, h2.w⟩, by rw [List.length_append]; show _ + 1 ≤ 80; omega, fun x hx => by
          rcases List.mem_append.mp hx with hx | hx
          · exact (fok x hx).1
          · rw [List.mem_singleton.mp hx]
            exact ⟨c1, c2, c3, c4, by show 0 ≤ per; omega, p7, q0, by show hou ≤ 11; omega, c5⟩, alike_snoc fal c6, hM.k k, mok, k.g _ tmA, k.g _ tcA⟩
      have n99 : ∀ x ∈ fs, x.c ≠ 99 := fun x hx => by have := (fok x hx).2.2; omega
      have n1 : ∀ x ∈ fs, x.c ≠ 1 := fun x hx => by have := (fok x hx).2.1; omega
      have lt99 : ∀ x ∈ fs, x.c < 99 := fun x hx => (fok x hx).2.2
      have gt1 : ∀ x ∈ fs, 1 < x.c := fun x hx => (fok x hx).2.1
      refine ⟨_, rfl, _, rfl, D0, mt, fs, m, rfl, ask0 (Kx.refl _), fun G1 r1 g1 nr1 hr1 => ?_⟩
      refine more_word (i := 3) (i9 := 9) (i10 := 10) rfl rfl rfl (g1.lst hDA) (husA.k g1) (by omega) fun G2 x2 ts2 g2 hx2 ht2 => ?_
      have g12 := g1.trans g2
      refine ⟨_, rfl, x2, mt, _, m, rfl, ask1 g12 hx2 ht2 (by decide) (by decide) (by decide) (by decide) (by decide) n99, fun G3 r3 g3 nr3 hr3 => ?_⟩
      have g13 := g12.trans g3
      refine more_word (i := 3) (i9 := 9) (i10 := 10) rfl rfl rfl (g13.lst hDA) (husA.k g13) (by omega) fun G4 x4 ts4 g4 hx4 ht4 => ?_
      have g14 := g13.trans g4
      refine ⟨_, rfl, x4, mt, _, m, rfl, ask1 g14 hx4 ht4 (by decide) (by decide) (by decide) (by decide) (by decide) n99, fun G5 r5 g5 nr5 hr5 => ?_⟩
      have g15 := g14.trans g5
      refine more_word (i := 3) (i9 := 9) (i10 := 10) rfl rfl rfl (g15.lst hDA) (husA.k g15) (by omega) fun G6 x6 ts6 g6 hx6 ht6 => ?_
      have g16 := g15.trans g6
      have s1 := late_yes (m := m) (h := 3) (p := per) (o := hou) lt99
      have s2 := late_no (m := m) (h := 3) (p := per) (o := hou) lt99
      have s3 := late_one (m := m) (h := 3) (p := per) (o := hou) lt99
      have s4 := late_maybe (m := m) (h := 3) (p := per) (o := hou) lt99
      have s5 := late_sure (m := m) (h := 3) (p := per) (o := hou) lt99
      have l12 : ∀ (cs : List Str) (F : Int → Int → Str) (m' : Mt), (hoursL m' cs F).length ≤ 4000 := fun cs F m' => Nat.le_trans (hoursL_len m' cs F) (by decide)
      have hr1b := ((g2.trans g3).trans ((g4.trans g5).trans g6)).lst hr1
      have hr3b := ((g4.trans g5).trans g6).lst hr3
      have hr5b := g6.lst hr5
      dsimp only
      show tSeq (tIfS _ _ _) _ _ _ _
      refine seq_cut (fun σ' H' => σ' = [some (.ref a), some (.int wh), some (.int b), some (.ref D0), v4, some (.int n), some (.ref pm), some (.int m.e), some (.ref nm), some (.int per), some (.int hou), some (.ref mt), some (.ref r1), some (.ref r3), some (.ref r5), some (.ref x6), v16, v17, v18] ∧ Kx G6 H') (fun D hD => ?_) ?_
      · show tIfS _ _ _ D [some (.ref a), some (.int wh), some (.int b), some (.ref D0), v4, some (.int n), some (.ref pm), some (.int m.e), some (.ref nm), some (.int per), some (.int hou), some (.ref mt), some (.ref r1), some (.ref r3), some (.ref r5), some (.ref x6), v16, v17, v18] G6
        refine ⟨_, rfl, _, rfl, r1, r3, _, _, rfl, sq_of hr1b, sq_of hr3b, l12 _ _ _, fun G7 g7 => ?_⟩
        rw [s1]
        refine ⟨true, rfl, iteF ?_⟩
        refine ⟨_, rfl, _, rfl, r5, r1, _, _, rfl, sq_of (g7.lst hr5b), sq_of (g7.lst hr1b), l12 _ _ _, fun G8 g8 => ?_⟩
        rw [s2]
        refine ⟨true, rfl, iteF ?_⟩
        have g78 := g7.trans g8
        refine ⟨_, rfl, _, rfl, _, rfl, (by show 1 ≤ sizeLine; decide), fun z1 nz1 => ?_⟩
        have g9 : Kx G8 (upd G8 z1 (.lst [.int hou])) := Kx.new nz1
        have hz1 : (upd G8 z1 (.lst [.int hou])) z1 = some (.lst [.int hou]) := upd_same
        generalize upd G8 z1 (.lst [.int hou]) = G9 at g9 hz1 ⊢
        refine ⟨r1, z1, _, _, rfl, rfl, (g78.trans g9).lst hr1b, hz1, by rw [List.length_map]; show _ + 1 ≤ sizeLine; exact small80 (by have := hoursL_len m ["yes"] (ansF fs); omega), fun z2 nz2 => ?_⟩
        rw [show (hoursL m ["yes"] (ansF fs)).map V.int ++ [V.int hou] = (hoursL m ["yes"] (ansF fs) ++ [hou]).map V.int from by rw [List.map_append] <;> rfl]
        have g10 : Kx G9 (upd G9 z2 (.lst ((hoursL m ["yes"] (ansF fs) ++ [hou]).map V.int))) := Kx.new nz2
        have hz2 : (upd G9 z2 (.lst ((hoursL m ["yes"] (ansF fs) ++ [hou]).map V.int))) z2 = some (.lst ((hoursL m ["yes"] (ansF fs) ++ [hou]).map V.int)) := upd_same
        generalize upd G9 z2 (.lst ((hoursL m ["yes"] (ansF fs) ++ [hou]).map V.int)) = G10 at g10 hz2 ⊢
        have g7A := (g78.trans g9).trans g10
        refine ⟨r3, z2, _, _, rfl, sq_of (g7A.lst hr3b), sq_of hz2, l12 _ _ _, fun G11 g11 => ?_⟩
        rw [s3]
        exact ⟨true, rfl, iteF (hD _ _ ⟨rfl, g7A.trans g11⟩)⟩
      rintro _ E1 ⟨rfl, f1⟩
      show tSeq (tIfS _ _ _) _ _ _ _
      refine seq_cut (fun σ' H' => σ' = [some (.ref a), some (.int wh), some (.int b), some (.ref D0), v4, some (.int n), some (.ref pm), some (.int m.e), some (.ref nm), some (.int per), some (.int hou), some (.ref mt), some (.ref r1), some (.ref r3), some (.ref r5), some (.ref x6), v16, v17, v18] ∧ Kx G6 H') (fun D hD => ?_) ?_
      · refine ⟨_, rfl, _, rfl, x6, mt, _, m, rfl, ask1 (g16.trans f1) (f1.lst hx6) (ht6.k f1) (by decide) (by decide) (by decide) (by decide) (by decide) n99, fun G12 r12 k12 nr12 hr12 => ?_⟩
        refine ⟨_, rfl, isD _, isD _, isD_dp (sq_of hr12), isD_dp (sq_of ((f1.trans k12).lst hr5b)), isD_sh _, isD_sh _, _, rfl, ?_⟩
        rw [isD_eqv, decide_eq_true s4]
        exact iteF (hD _ _ ⟨rfl, f1.trans k12⟩)
      rintro _ E2 ⟨rfl, f2⟩
      show tSeq (tIfS _ _ _) _ _ _ _
      refine seq_cut (fun σ' H' => σ' = [some (.ref a), some (.int wh), some (.int b), some (.ref D0), v4, some (.int n), some (.ref pm), some (.int m.e), some (.ref nm), some (.int per), some (.int hou), some (.ref mt), some (.ref r1), some (.ref r3), some (.ref r5), some (.ref x6), v16, v17, v18] ∧ Kx G6 H') (fun D hD => ?_) ?_
      · refine ⟨_, rfl, _, rfl, x6, mt, _, m, rfl, ask1 (g16.trans f2) (f2.lst hx6) (ht6.k f2) (by decide) (by decide) (by decide) (by decide) (by decide) n99, fun G12 r12 k12 nr12 hr12 => ?_⟩
        have f12 := f2.trans k12
        refine more_word (i := 3) (i9 := 9) (i10 := 10) rfl rfl rfl ((g16.trans f12).lst hDA) (husA.k (g16.trans f12)) (by omega) fun G13 x13 ts13 k13 hx13 ht13 => ?_
        have f13 := f12.trans k13
        refine ⟨_, rfl, x13, mt, _, m, rfl, ask1 (g16.trans f13) hx13 ht13 (by decide) (by decide) (by decide) (by decide) (by decide) n99, fun G14 r14 k14 nr14 hr14 => ?_⟩
        refine ⟨isD _, isD _, isD_dp (sq_of ((k13.trans k14).lst hr12)), isD_dp (sq_of hr14), isD_sh _, isD_sh _, _, rfl, ?_⟩
        rw [isD_eqv, decide_eq_true s5]
        exact iteF (hD _ _ ⟨rfl, f13.trans k14⟩)
      rintro _ E3 ⟨rfl, f3⟩
      have hD3 := (g16.trans f3).lst hDA
      have hus3 := husA.k (g16.trans f3)
      refine seq_cut (fun σ' H' => ∃ (D1 : Addr) (vs : List Addr), σ' = [some (.ref a), some (.int wh), some (.int b), some (.ref D0), v4, some (.int n), some (.ref pm), some (.int m.e), some (.ref nm), some (.int per), some (.int hou), some (.ref mt), some (.ref r1), some (.ref r3), some (.ref r5), some (.ref x6), some (.ref D1), v17, v18] ∧ Kx G6 H' ∧ H' D1 = some (.lst (vs.map V.ref)) ∧ TAt H' vs (fs.filter fun x => decide ([x.p, x.o] = [per, hou]))) (fun D hD => ?_) ?_
      · refine ⟨_, rfl, D0, rfl, ⟨_, sq_of hD3⟩, fun D1 nD1 => ?_⟩
        refine lc_list (K := K) (a := D0) (xs := us.map V.ref) (fun j E4 => Kx E3 E4 ∧ ∃ vs : List Addr, E4 D1 = some (.lst (vs.map V.ref)) ∧ TAt E4 vs ((fs.take j).filter fun x => decide ([x.p, x.o] = [per, hou])) ∧ vs.length ≤ j)
          ⟨Kx.new nD1, [], upd_same, .nil, Nat.le_refl _⟩ (fun j E4 _ h => h.1.l (sq_of hD3)) ?_ ?_
        · rintro j y E4 hj ⟨k4, vs, hD4, hvs, lvs⟩
          obtain ⟨t, ht, rfl⟩ : ∃ t, us[j]? = some t ∧ V.ref t = y := by
            rw [List.getElem?_map] at hj
            exact Option.map_eq_some_iff.mp hj
          obtain ⟨x, hx, hxt⟩ := paired_at (hus3.k k4) ht
          have hjl : j < us.length := (List.getElem?_eq_some_iff.mp ht).1
          have e1 : fs.take (j + 1) = fs.take j ++ [x] := by rw [List.take_add_one, hx] <;> rfl
          refine ⟨rfl, _, rfl, 2, rfl, 4, rfl, t, _, rfl, st_of hxt, not_whole24 x, fun p2 np2 => ?_⟩
          rw [cut24]
          have k5 : Kx E4 (upd E4 p2 (.tup ([x.p, x.o].map V.int))) := Kx.new np2
          have hp2 : (upd E4 p2 (.tup ([x.p, x.o].map V.int))) p2 = some (.tup ([x.p, x.o].map V.int)) := upd_same
          generalize upd E4 p2 (.tup ([x.p, x.o].map V.int)) = E5 at k5 hp2 ⊢
          refine ⟨_, rfl, _, rfl, (by show 2 ≤ sizeLine; decide), fun p3 np3 => ?_⟩
          rw [show ([V.int per, V.int hou] : List V) = [per, hou].map V.int from rfl]
          have k6 : Kx E5 (upd E5 p3 (.tup ([per, hou].map V.int))) := Kx.new np3
          have hp3 : (upd E5 p3 (.tup ([per, hou].map V.int))) p3 = some (.tup ([per, hou].map V.int)) := upd_same
          generalize upd E5 p3 (.tup ([per, hou].map V.int)) = E6 at k6 hp3 ⊢
          have k56 := k5.trans k6
          refine ⟨itD [x.p, x.o], itD [per, hou], itD_dp (st_of (k6.tup hp2)), itD_dp (st_of hp3), itD_sh _, itD_sh _, _, rfl, ?_⟩
          rw [itD_eqv]
          have hD6' := k56.lst hD4
          have kAll := k4.trans k56
          by_cases c1 : [x.p, x.o] = [per, hou]
          · rw [decide_eq_true c1]
            refine iteT ⟨_, rfl, _, hD6', by rw [List.length_map]; exact lt80 (by omega), kAll.mut nD1, vs ++ [t], by rw [upd_same, List.map_append] <;> rfl, ?_, by rw [List.length_append]; show _ + 1 ≤ _; omega⟩
            rw [e1, filter_snoc, if_pos (decide_eq_true c1)]
            have hxt6 := k56.tup hxt
            exact paired_snoc ((hvs.k k56).up hD6' fun ys y => nomatch y) (by rw [upd_ne (fun e => by rw [e, hD6'] at hxt6; cases hxt6)]; exact hxt6)
          · rw [decide_eq_false c1]
            refine iteF ⟨kAll, vs, hD6', ?_, by omega⟩
            rw [e1, filter_snoc, if_neg (by rw [decide_eq_false c1]; exact Bool.false_ne_true), List.append_nil]
            exact hvs.k k56
        · rintro E4 ⟨k4, vs, hD4, hvs, lvs⟩
          rw [List.length_map, lus, List.take_length] at hvs
          exact hD _ _ ⟨D1, vs, rfl, f3.trans k4, hD4, hvs⟩
      rintro _ E4 ⟨D1, vs, rfl, f4, hD4, hvs⟩
      show tSeq (tIfS _ _ _) _ _ _ _
      refine seq_cut (fun σ' H' => σ' = [some (.ref a), some (.int wh), some (.int b), some (.ref D0), v4, some (.int n), some (.ref pm), some (.int m.e), some (.ref nm), some (.int per), some (.int hou), some (.ref mt), some (.ref r1), some (.ref r3), some (.ref r5), some (.ref x6), some (.ref D1), v17, v18] ∧ Kx G6 H') (fun D hD => ?_) ?_
      · refine ⟨_, rfl, Nat.zero_le _, fun z1 nz1 => ?_⟩
        have k5 : Kx E4 (upd E4 z1 (.lst [])) := Kx.new nz1
        have hz1 : (upd E4 z1 (.lst [])) z1 = some (.lst []) := upd_same
        generalize upd E4 z1 (.lst []) = E5 at k5 hz1 ⊢
        refine ⟨wsD _, isD [], wsD_dp (ws := fs.filter fun x => decide ([x.p, x.o] = [per, hou])) ⟨vs, sq_of (k5.lst hD4), (hvs.k k5).w⟩, isD_dp (sq_of hz1), wsD_sh fun x hx => (fok x (List.mem_filter.mp hx).1).1, isD_sh _, _, rfl, ?_⟩
        rw [show isD [] = wsD [] from rfl, wsD_eqv]
        have f5 := f4.trans k5
        by_cases c1 : (fs.filter fun x => decide ([x.p, x.o] = [per, hou])) = []
        · rw [decide_eq_true c1]
          exact iteF (iteF (hD _ _ ⟨rfl, f5⟩))
        · rw [decide_eq_false c1]
          refine iteT ?_
          have g5 := g16.trans f5
          refine more_word (i := 3) (i9 := 9) (i10 := 10) rfl rfl rfl (g5.lst hDA) (husA.k g5) (by omega) fun G13 x13 ts13 k13 hx13 ht13 => ?_
          have f13 := f5.trans k13
          refine ⟨_, rfl, x13, mt, _, m, rfl, ask1 (g16.trans f13) hx13 ht13 (by decide) (by decide) (by decide) (by decide) (by decide) n1, fun G14 r14 k14 nr14 hr14 => ?_⟩
          have f14 := f13.trans k14
          refine ⟨_, rfl, isD _, isD _, isD_dp (sq_of hr14), isD_dp (sq_of (f14.lst hr1b)), isD_sh _, isD_sh _, _, rfl, ?_⟩
          obtain ⟨x, hx⟩ := List.exists_mem_of_ne_nil _ c1
          obtain ⟨x1, x2⟩ := List.mem_filter.mp hx
          have x2 := of_decide_eq_true x2
          have ee := ansF_early (w := ⟨1, 0, per, hou, "yes"⟩) gt1 ⟨x, x1, (List.cons.inj x2).1, (List.cons.inj (List.cons.inj x2).2).1⟩
          rw [isD_eqv, decide_eq_true (by rw [ee])]
          exact iteF (hD _ _ ⟨rfl, f14⟩)
      rintro _ E5 ⟨rfl, f5⟩
      have s6 : ((hoursL m ["yes"] (ansF fs)).all fun x => decide (x ∈ hoursL ⟨m.ps, m.e, m.nds.drop 1⟩ ["yes"] (ansF fs))) = true :=
        List.all_eq_true.mpr fun y hy => decide_eq_true (hoursL_at (m := m) (n := ⟨m.ps, m.e, m.nds.drop 1⟩) rfl (Int.le_refl _) (fun x hx => List.mem_of_mem_drop hx) (fun x z => z) hy)
      have s7 : ((hoursL m ["yes"] (ansF fs)).all fun x => decide (x ∈ hoursL ⟨m.ps, 1, m.nds⟩ ["yes"] (ansF fs))) = true :=
        List.all_eq_true.mpr fun y hy => decide_eq_true (hoursL_at (m := m) (n := ⟨m.ps, 1, m.nds⟩) rfl e1 (fun x hx => hx) (fun x z => z) hy)
      have ok6 : Mt.ok ⟨m.ps, m.e, m.nds.drop 1⟩ := ⟨mok.p, rise_drop mok.n, e1, e2, fun x hx => mok.sub x (List.mem_of_mem_drop hx)⟩
      have ok7 : Mt.ok ⟨m.ps, 1, m.nds⟩ := ⟨mok.p, mok.n, Int.le_refl _, Int.le_trans e1 e2, mok.sub⟩
      refine seq_cut (fun σ' H' => σ' = [some (.ref a), some (.int wh), some (.int b), some (.ref D0), v4, some (.int n), some (.ref pm), some (.int m.e), some (.ref nm), some (.int per), some (.int hou), some (.ref mt), some (.ref r1), some (.ref r3), some (.ref r5), some (.ref x6), some (.ref D1), v17, v18] ∧ Kx G6 H') (fun D hD => ?_) ?_
      · have g5 := g16.trans f5
        have a5 := (k910.trans g5)
        refine ⟨_, rfl, _, rfl, _, rfl, _, rfl, _, rfl, 1, rfl, ?_⟩
        dsimp only [tNoPart]
        refine slA_drop (a5.t hmn) fun p5 G kG hp5 => ?_
        refine ⟨(by show 3 ≤ sizeLine; decide), fun t3 nt3 => ?_⟩
        have k6 : Kx G (upd G t3 (.tup [.ref pm, .int m.e, .ref p5])) := Kx.new nt3
        have ht3 : (upd G t3 (.tup [.ref pm, .int m.e, .ref p5])) t3 = some (.tup [.ref pm, .int m.e, .ref p5]) := upd_same
        generalize upd G t3 (.tup [.ref pm, .int m.e, .ref p5]) = E6 at k6 ht3 ⊢
        have kG6 := kG.trans k6
        have A6 := ask0 (g5.trans kG6)
        refine ⟨D0, t3, fs, ⟨m.ps, m.e, m.nds.drop 1⟩, rfl, ⟨A6.hw, A6.h80, A6.ok, A6.al, ⟨pm, p5, st_of ht3, (a5.trans kG6).t hmp, k6.t hp5⟩, ok6, A6.tm, A6.tc⟩, fun G7 r7 k7 nr7 hr7 => ?_⟩
        have f7 := (f5.trans kG6).trans k7
        refine ⟨r1, r7, _, _, rfl, sq_of (f7.lst hr1b), sq_of hr7, l12 _ _ _, fun G8 k8 => ?_⟩
        rw [s6]
        exact ⟨true, rfl, iteF (hD _ _ ⟨rfl, f7.trans k8⟩)⟩
      rintro _ E6 ⟨rfl, f6⟩
      show tSeq (tIfS _ _ _) _ _ _ _
      refine seq_cut (fun σ' H' => σ' = [some (.ref a), some (.int wh), some (.int b), some (.ref D0), v4, some (.int n), some (.ref pm), some (.int m.e), some (.ref nm), some (.int per), some (.int hou), some (.ref mt), some (.ref r1), some (.ref r3), some (.ref r5), some (.ref x6), some (.ref D1), v17, v18] ∧ Kx G6 H') (fun D hD => ?_) ?_
      · have g5 := g16.trans f6
        have a5 := (k910.trans g5)
        refine ⟨_, rfl, _, rfl, _, rfl, _, rfl, (by show 3 ≤ sizeLine; decide), fun t3 nt3 => ?_⟩
        have k6 : Kx E6 (upd E6 t3 (.tup [.ref pm, .int 1, .ref nm])) := Kx.new nt3
        have ht3 : (upd E6 t3 (.tup [.ref pm, .int 1, .ref nm])) t3 = some (.tup [.ref pm, .int 1, .ref nm]) := upd_same
        generalize upd E6 t3 (.tup [.ref pm, .int 1, .ref nm]) = E7 at k6 ht3 ⊢
        have A6 := ask0 (g5.trans k6)
        refine ⟨D0, t3, fs, ⟨m.ps, 1, m.nds⟩, rfl, ⟨A6.hw, A6.h80, A6.ok, A6.al, ⟨pm, nm, st_of ht3, (a5.trans k6).t hmp, (a5.trans k6).t hmn⟩, ok7, A6.tm, A6.tc⟩, fun G7 r7 k7 nr7 hr7 => ?_⟩
        have f7 := (f6.trans k6).trans k7
        refine ⟨r1, r7, _, _, rfl, sq_of (f7.lst hr1b), sq_of hr7, l12 _ _ _, fun G8 k8 => ?_⟩
        rw [s7]
        exact ⟨true, rfl, iteF (hD _ _ ⟨rfl, f7.trans k8⟩)⟩
      rintro _ E7 ⟨rfl, f7⟩
      have kE7 := kA.trans (g16.trans f7)
      refine ⟨_, rfl, _, rfl, a, ns, b, 4, rfl, kE7.l ha, h63, hb, by omega, by omega, by decide, fun H8 r8 lf lo ms os k8 hr8 M l4 => ?_⟩
      refine ⟨r8, _, rfl, st_of hr8, rfl, _, _, rfl, _, _, rfl, rfl, ?_⟩
      obtain ⟨⟨as, hlf, has⟩, hlo, nlf, nlo, nfo, los, mokk, old⟩ := M
      have oin : ∀ x ∈ os, ∀ h, x = some h → 0 ≤ h ∧ h ≤ 11 := fun x hx h e => by have := old x hx h e; omega
      have gE := (g16.trans f7).trans k8
      have kE8 := kE7.trans k8
      refine ⟨_, rfl, _, rfl, _, rfl, _, rfl, D0, lf, lo, wh, fs, ms, os, rfl, ⟨⟨us, sq_of (gE.lst hDA), husA.k gE⟩, by omega, fun x hx => (fok x hx).1, fal⟩, ⟨as, sq_of hlf, has⟩, mokk, by omega, sq_of hlo, los, oin, kE8.g _ tm, kE8.g _ tc, fun H9 k9' => ?_⟩
      refine ⟨true, rfl, iteF ?_⟩
      exact ⟨_, _, _, _, _, _, _, _, _, _, _, _, _, _, _, _, _, rfl, ((((kx.trans k5).trans k6).trans k6A).trans gE).trans k9'⟩
  · rintro σ Hx ⟨v2, v3, v4, v5, v6, v7, v8, v9, v10, v11, v12, v13, v14, v15, v16, v17, v18, rfl, kx⟩
    have kx0 := k02.trans kx
    intro v G1 g1 lt1
    obtain ⟨l, ts, rfl, hl, ht⟩ := words_lt (ws := kW2) lt1
    intro v G2 g2 lt2
    obtain ⟨m1, rfl, hm1⟩ := mt_at (K := K) (m := kM2) lt2
    have k2' := kx0.trans (g1.trans g2)
    refine ⟨l, m1, kW2, kM2, rfl, ⟨⟨ts, sq_of (g2.lst hl), (ht.k g2).w⟩, by decide, kW2_ok, kW2_al, hm1, kM2_ok, k2'.g _ tm, k2'.g _ tc⟩, fun G3 r3 g3 nr3 hr3 => ?_⟩
    rw [show hoursL kM2 ["yes"] (ansF kW2) = [] from by decide +kernel] at hr3
    refine ⟨Nat.zero_le _, fun z1 nz1 => ?_⟩
    have k5 : Kx G3 (upd G3 z1 (.lst [])) := Kx.new nz1
    have hz1 : (upd G3 z1 (.lst [])) z1 = some (.lst []) := upd_same
    generalize upd G3 z1 (.lst []) = E5 at k5 hz1 ⊢
    refine ⟨isD [], isD [], isD_dp (ns := []) (sq_of (k5.lst hr3)), isD_dp (ns := []) (sq_of hz1), isD_sh _, isD_sh _, ?_⟩
    rw [isD_eqv, decide_eq_true rfl]
    exact q _
end
end CH
end

section
set_option Elab.async false
set_option linter.all false
set_option maxRecDepth 100000
set_option maxHeartbeats 0
namespace CH
open PySem PySem.Spec PyProof.Rows L2
open GxR (TabB TabG Tabbed)
def dd (x : Str) (st : Stmt) : He.DefD := ⟨(x, none), x, x, defArgs st, defBody st, defScope st, [], []⟩
def de (a : Str × Option Str) (x q : Str) (st : Stmt) (l : List He.Dv) : He.DefD := ⟨a, x, q, defArgs st, defBody st, defScope st, l, []⟩
def fn : List He.DefD := [dd "is_whole" (top 15), dd "is_number" (top 16), dd "is_hand" (top 17), dd "is_person" (top 18), dd "is_hour" (top 19), dd "is_answer" (top 20), dd "is_word" (top 21), dd "copied_words" (top 22), dd "each_once" (top 23), dd "checked_words" (top 24), dd "is_people" (top 25), dd "is_meeting" (top 26), dd "check_meeting" (top 27), dd "answers_that_count" (top 33), dd "answer_of" (top 34), dd "can_be" (top 35), de ("hours_of", none) "hours_of" "hours_of" (top 36) [.glo "YES"], dd "hours_by" (top 37), dd "hours" (top 38), dd "hours_maybe" (top 39), dd "copied" (top 44), dd "jump" (top 45), dd "jumps_of" (top 46), de ("Seats", some "__init__") "__init__" "Seats.__init__" (inClass (top 48) 0) [], de ("Seats", some "gap") "gap" "Seats.gap" (inClass (top 48) 1) [], de ("Seats", some "ways") "ways" "Seats.ways" (inClass (top 48) 2) [], de ("Seats", some "raise_prices") "raise_prices" "Seats.raise_prices" (inClass (top 48) 3) [], de ("Seats", some "hand_on") "hand_on" "Seats.hand_on" (inClass (top 48) 4) [], de ("Tight", some "__init__") "__init__" "Tight.__init__" (inClass (top 43) 0) [], de ("Seats", some "seat") "seat" "Seats.seat" (inClass (top 48) 5) [], de ("Moved", some "__init__") "__init__" "Moved.__init__" (inClass (top 42) 0) [], dd "check_meetings" (top 28), dd "check_olds" (top 29), dd "table" (top 49), dd "_law_number" (top 51), dd "_law_words" (top 52), dd "_law_meeting" (top 54), dd "_law_meetings" (top 61), dd "_law_in" (top 62), dd "_law_table_right" (top 63), dd "law" (top 64)]
def fa : List He.Fa := [.glo "is_whole", .glo "is_number", .glo "is_hand", .glo "is_person", .glo "is_hour", .glo "is_answer", .glo "is_word", .glo "copied_words", .glo "each_once", .glo "checked_words", .glo "is_people", .glo "is_meeting", .glo "check_meeting", .glo "answers_that_count", .glo "answer_of", .glo "can_be", .glo "hours_of", .glo "hours_by", .glo "hours", .glo "hours_maybe", .glo "copied", .glo "jump", .glo "jumps_of", .glo "check_meetings", .glo "check_olds", .glo "table", .glo "_law_number", .glo "_law_words", .glo "_law_meeting", .glo "_law_meetings", .glo "_law_in", .glo "_law_table_right", .glo "law", .free "ValueError", .free "abs", .free "all", .free "any", .free "bool", .free "enumerate", .free "int", .free "isinstance", .free "len", .free "list", .free "min", .free "range", .free "set", .free "sorted", .free "str", .free "sum", .free "tuple", .free "zip", .int "MOST_WORDS" 80, .int "MOST_MEETINGS" 6, .int "COUNTS" 99, .int "HANDS" 4, .int "PEOPLE" 8, .int "HOURS" 12, .glo "ANSWERS", .glo "YES", .glo "YES_OR_MAYBE", .glo "Moved", .cls "Moved", .noat "Moved" "hours", .noat "Moved" "prices", .noat "Moved" "rents", .glo "Tight", .cls "Tight", .noat "Tight" "meetings", .noat "Tight" "hours", .glo "Seats", .cls "Seats", .noat "Seats" "jumps", .noat "Seats" "hours", .noat "Seats" "prices", .noat "Seats" "rents", .noat "Seats" "holders", .mkr "Seats", .meth "Seats" "gap", .meth "Seats" "ways", .meth "Seats" "raise_prices", .meth "Seats" "hand_on", .mkr "Tight", .meth "Seats" "seat", .mkr "Moved", .glo "BadWords", .exc "BadWords", .glo "Unlike", .exc "Unlike"]
def tf : List He.Defn := [("is_meeting", none), ("can_be", none)]
def ex (K : PySem.W.Frag) : Bool := He.tupB K "ANSWERS" [.str "yes", .str "maybe", .str "no"] && (He.tupB K "YES" [.str "yes"] && (He.tupB K "YES_OR_MAYBE" [.str "yes", .str "maybe"] && (ownB K (He.ga K "Moved") && (ownB K (He.ga K "Tight") && (ownB K (He.ga K "Seats") && (excCB K (He.ga K "BadWords") && (excCB K (He.ga K "Unlike") && (kitEB K "Moved" "Moved" true && (kitEB K "Tight" "Moved" false && (true))))))))))
abbrev R : PySem.W.OpenRow := PySem.W.OpenLaw.row PySem.Challenge.rw_commonhour_k07_whole_kin
abbrev hk : PySem.W.Hook := He.hookX 4 fa fn [] tf ex
/-- each once, what was seen kept as one number's digits -/
def seenAt (m a : Nat) : Bool := Nat.beq (Nat.land 1 (Nat.shiftRight m a)) 1
def onceF : List Addr → Nat → List Addr → List Addr
  | [], _, acc => acc.reverse
  | a :: r, m, acc => match seenAt m a with
    | true => onceF r m acc
    | false => HandSHeadRun.frNat (Nat.lor m (Nat.shiftLeft 1 a)) fun m' => onceF r m' (a :: acc)
theorem seenAt_eq (m a : Nat) : seenAt m a = m.testBit a := by
  have e : Nat.land 1 (Nat.shiftRight m a) = (m >>> a) % 2 := by
    show 1 &&& (m >>> a) = _
    rw [Nat.and_comm, Nat.and_one_is_mod]
  unfold seenAt
  rw [e]
  show _ = (1 &&& m >>> a != 0)
  rw [Nat.and_comm, Nat.and_one_is_mod]
  rcases Nat.mod_two_eq_zero_or_one (m >>> a) with z | z <;> rw [z] <;> rfl
theorem onceF_eq : ∀ (as bs : List Addr) (m : Nat), (∀ a, m.testBit a = bs.any fun b => a == b) → List.eraseDupsBy.loop (fun x y => x == y) as bs = onceF as m bs
  | [], bs, m, _ => by
    unfold onceF List.eraseDupsBy.loop
    rfl
  | a :: r, bs, m, h => by
    unfold onceF
    rw [List.eraseDupsBy.loop.eq_2, seenAt_eq, h a]
    cases bs.any fun b => a == b with
    | true => exact onceF_eq r bs m h
    | false =>
      show _ = HandSHeadRun.frNat _ _
      rw [HandSHeadRun.frNat_eq]
      refine onceF_eq r (a :: bs) _ fun b => ?_
      show (m ||| 1 <<< a).testBit b = _
      rw [Nat.testBit_or, h b, Nat.one_shiftLeft, Nat.testBit_two_pow, List.any_cons, Bool.or_comm]
      congr 1
      by_cases q : a = b
      · subst q
        simp
      · rw [decide_eq_false q]
        exact (beq_eq_false_iff_ne.mpr fun z => q z.symm).symm
def namesOf (g : Addr → Option Obj) (a : Addr) : List Addr := (g a).elim [] He.refsD
def reachF (g : Addr → Option Obj) : Nat → List Addr
  | 0 => [mainGlobals]
  | n + 1 => (fun as => onceF (as ++ as.flatMap (namesOf g)) 0 []) (reachF g n)
theorem reachF_eq (g : Addr → Option Obj) : ∀ n, reachF g n = He.asD g n
  | 0 => rfl
  | n + 1 => by
    show onceF (reachF g n ++ (reachF g n).flatMap (namesOf g)) 0 [] = He.growD g (He.asD g n)
    rw [reachF_eq g n]
    have e : namesOf g = fun a => match g a with
        | some o => He.refsD o
        | none => [] := by
      funext a
      unfold namesOf
      cases g a <;> rfl
    rw [e, ← onceF_eq _ [] 0 fun a => by rw [Nat.zero_testBit] <;> rfl]
    rfl
def obK (g : Addr → Option Obj) (K : PySem.W.Frag) : He.AlX := (He.obsT fa fn [] K, ex K && He.tabsB g tf K)
def ob (s : PySem.W.SharedT) : He.AlX := obK (HandSHeadRun.getT s) (He.frT (HandSHeadRun.getT s) (reachF (HandSHeadRun.getT s) 4))
theorem ob_eq (s : PySem.W.SharedT) : ob s = hk.obs s.abs := by
  unfold ob
  rw [reachF_eq]
  exact He.obsX_eq (n := 4) (HandSHeadRun.getT_eq s)
def loose : List Str := ([("_wall" : Str), ("HourError" : Str), ("BadWords" : Str), ("BadMeeting" : Str), ("BadOlds" : Str), ("Unlike" : Str), ("MOST_WORDS" : Str), ("MOST_MEETINGS" : Str), ("COUNTS" : Str), ("HANDS" : Str), ("PEOPLE" : Str), ("HOURS" : Str), ("ANSWERS" : Str), ("is_whole" : Str), ("is_number" : Str), ("is_hand" : Str), ("is_person" : Str), ("is_hour" : Str), ("is_answer" : Str), ("is_word" : Str), ("copied_words" : Str), ("each_once" : Str), ("checked_words" : Str), ("is_people" : Str), ("is_meeting" : Str), ("check_meeting" : Str), ("check_meetings" : Str), ("check_olds" : Str), ("YES" : Str), ("YES_OR_MAYBE" : Str)] : List Str) ++ ([("answers_that_count" : Str), ("answer_of" : Str), ("can_be" : Str), ("hours_of" : Str), ("hours_by" : Str), ("hours" : Str), ("hours_maybe" : Str), ("Answer" : Str), ("Moved" : Str), ("Tight" : Str), ("copied" : Str), ("jump" : Str), ("jumps_of" : Str), ("Seats" : Str), ("table" : Str), ("_law_number" : Str), ("_law_words" : Str), ("_law_answers" : Str), ("_law_meeting" : Str), ("_law_hours" : Str), ("_law_bars" : Str), ("_law_jump" : Str), ("_law_cans" : Str), ("_law_moved" : Str), ("_law_tight" : Str), ("_law_meetings" : Str), ("_law_in" : Str), ("_law_table_right" : Str)] : List Str)
theorem tri3 {α β γ δ : Type} {o : Option α} {f : α → β} {g : α → γ} {h : α → δ} {x : β} {y : γ} {z : δ} (a : o.map f = some x) (b : o.map g = some y) (c : o.map h = some z) : o.map (fun s => (f s, g s, h s)) = some (x, y, z) := by
  cases o with
  | none => cases a
  | some s =>
    have e1 : f s = x := Option.some.inj a
    have e2 : g s = y := Option.some.inj b
    have e3 : h s = z := Option.some.inj c
    rw [← e1, ← e2, ← e3] <;> rfl
theorem run1 (w : World) (os : OsState) : (HandSHeadRun.endF (HandSHeadRun.stepQ (HandSHeadRun.denQ HandSHeadRun.tabQ) R.prog w) 12000 R.prog w os).map (fun s => HandSHeadRun.looksF R.prog (PySem.W.boot_heap w.params) s.abs) = some true := by
  kernel_rfl
theorem run2 (w : World) (os : OsState) : (HandSHeadRun.endF (HandSHeadRun.stepQ (HandSHeadRun.denQ HandSHeadRun.tabQ) R.prog w) 12000 R.prog w os).map (fun s => HandSHeadRun.seenQ (PySem.W.view R.prog [64]) loose (importedModules R.prog.main.body) (fun s => PySem.W.xlAt (PySem.W.view R.prog [64]) [] s && PySem.W.recOk R.toRowW.records s) s.abs) = some (PySem.W.openGood (PySem.W.view R.prog [64]) loose) := by
  kernel_rfl
theorem run3 (w : World) (os : OsState) : (HandSHeadRun.endF (HandSHeadRun.stepQ (HandSHeadRun.denQ HandSHeadRun.tabQ) R.prog w) 12000 R.prog w os).map (fun s => ob s) = some (hk.val w) := by
  kernel_rfl
theorem run (w : World) : HandSHeadRun.RunEq R (PySem.W.view R.prog [64]) hk ob 12000 loose w := fun os => tri3 (run1 w os) (run2 w os) (run3 w os)
end CH
end

section
set_option Elab.async false
set_option linter.all false
set_option maxRecDepth 100000
set_option maxHeartbeats 4000000
set_option exponentiation.threshold 2000000
namespace CH
open PySem PySem.Spec PyProof.Rows L2
open GxR (TabB TabG Tabbed)
theorem defT_of {K : PySem.W.Frag} {mg : Str → Option Value} {x : Str} {st : Stmt} (F : ∃ fd, FnT K x st (He.fAd K (x, none)) fd) (hm : mg x = some (.ref (He.ga K x))) : DefT K mg x st (He.codeOf K (x, none)) := by
  obtain ⟨fd, F⟩ := F
  refine ⟨_, fd, F, hm, fun oc od osl fd' lk' => ?_⟩
  obtain ⟨oc1, od1, dV, kV, doc, pm, an, cdv, ct, osl1, rfl, lk, hcd, _, _⟩ := F.ex
  obtain ⟨c', ec⟩ := He.codeIn_ref hcd
  have e2 : He.codeOf K (x, none) = c' := He.codeOf_eq lk ec
  rw [lk] at lk'
  cases lk'
  rw [e2]
  exact ec
theorem intE {mg : Str → Option Value} {x : Str} {i : Int} (h : ∃ t, mg x = some (.int i t)) : ∃ u, mg x = some u ∧ RelV (.int i) u := by
  obtain ⟨t, e⟩ := h
  exact ⟨_, e, t, rfl⟩
theorem bits_of {z : Int} (h : Builtin.Int.intBits z ≤ 1048576) : Bits z 1100000 := Bits.mono (n := 1048576) (PySem.intBits_le_iff.mp h) (by decide)
theorem facts {P : Program} {w : World} {K : PySem.W.Frag} {h : Heap} {mg : Str → Option Value} {f : Addr} (X : K.In h) (G : h.Ns mainGlobals mg) (hfa : mg ("law" : Str) = some (.ref f)) (c0 : He.SaysX fa fn [] tf ex w h K) :
    ∃ fd : FuncData, (∀ (s : Shared) (v : Value), BindsTo s fd ⟨[v], []⟩ [("_law_script", v)]) ∧ ∀ base : Heap, K.In base → base.Ns mainGlobals mg → TabB base mg (He.cT K ("is_meeting", none)).1 (He.cT K ("is_meeting", none)).2 → TabB base mg (He.cT K ("can_be", none)).1 (He.cT K ("can_be", none)).2 →
      FnOk P w K mg base CX0 10 f fd ["_law_script"] (sp_law K (He.cT K ("is_meeting", none)).2 (He.cT K ("can_be", none)).2) := by
  have c : He.SaysD fa fn K := c0.t.d
  have D_is_whole : DefT K mg "is_whole" (top 15) (He.codeOf K ("is_whole", none)) := defT_of (c.def_ 0 (d := dd "is_whole" (top 15)) rfl) (He.glo_ok X G (c.fact 0 (f := .glo "is_whole") rfl))
  have D_is_number : DefT K mg "is_number" (top 16) (He.codeOf K ("is_number", none)) := defT_of (c.def_ 1 (d := dd "is_number" (top 16)) rfl) (He.glo_ok X G (c.fact 1 (f := .glo "is_number") rfl))
  have D_is_hand : DefT K mg "is_hand" (top 17) (He.codeOf K ("is_hand", none)) := defT_of (c.def_ 2 (d := dd "is_hand" (top 17)) rfl) (He.glo_ok X G (c.fact 2 (f := .glo "is_hand") rfl))
  have D_is_person : DefT K mg "is_person" (top 18) (He.codeOf K ("is_person", none)) := defT_of (c.def_ 3 (d := dd "is_person" (top 18)) rfl) (He.glo_ok X G (c.fact 3 (f := .glo "is_person") rfl))
  have D_is_hour : DefT K mg "is_hour" (top 19) (He.codeOf K ("is_hour", none)) := defT_of (c.def_ 4 (d := dd "is_hour" (top 19)) rfl) (He.glo_ok X G (c.fact 4 (f := .glo "is_hour") rfl))
  have D_is_answer : DefT K mg "is_answer" (top 20) (He.codeOf K ("is_answer", none)) := defT_of (c.def_ 5 (d := dd "is_answer" (top 20)) rfl) (He.glo_ok X G (c.fact 5 (f := .glo "is_answer") rfl))
  have D_is_word : DefT K mg "is_word" (top 21) (He.codeOf K ("is_word", none)) := defT_of (c.def_ 6 (d := dd "is_word" (top 21)) rfl) (He.glo_ok X G (c.fact 6 (f := .glo "is_word") rfl))
  have D_copied_words : DefT K mg "copied_words" (top 22) (He.codeOf K ("copied_words", none)) := defT_of (c.def_ 7 (d := dd "copied_words" (top 22)) rfl) (He.glo_ok X G (c.fact 7 (f := .glo "copied_words") rfl))
  have D_each_once : DefT K mg "each_once" (top 23) (He.codeOf K ("each_once", none)) := defT_of (c.def_ 8 (d := dd "each_once" (top 23)) rfl) (He.glo_ok X G (c.fact 8 (f := .glo "each_once") rfl))
  have D_checked_words : DefT K mg "checked_words" (top 24) (He.codeOf K ("checked_words", none)) := defT_of (c.def_ 9 (d := dd "checked_words" (top 24)) rfl) (He.glo_ok X G (c.fact 9 (f := .glo "checked_words") rfl))
  have D_is_people : DefT K mg "is_people" (top 25) (He.codeOf K ("is_people", none)) := defT_of (c.def_ 10 (d := dd "is_people" (top 25)) rfl) (He.glo_ok X G (c.fact 10 (f := .glo "is_people") rfl))
  have D_is_meeting : DefT K mg "is_meeting" (top 26) (He.codeOf K ("is_meeting", none)) := defT_of (c.def_ 11 (d := dd "is_meeting" (top 26)) rfl) (He.glo_ok X G (c.fact 11 (f := .glo "is_meeting") rfl))
  have D_check_meeting : DefT K mg "check_meeting" (top 27) (He.codeOf K ("check_meeting", none)) := defT_of (c.def_ 12 (d := dd "check_meeting" (top 27)) rfl) (He.glo_ok X G (c.fact 12 (f := .glo "check_meeting") rfl))
  have D_answers_that_count : DefT K mg "answers_that_count" (top 33) (He.codeOf K ("answers_that_count", none)) := defT_of (c.def_ 13 (d := dd "answers_that_count" (top 33)) rfl) (He.glo_ok X G (c.fact 13 (f := .glo "answers_that_count") rfl))
  have D_answer_of : DefT K mg "answer_of" (top 34) (He.codeOf K ("answer_of", none)) := defT_of (c.def_ 14 (d := dd "answer_of" (top 34)) rfl) (He.glo_ok X G (c.fact 14 (f := .glo "answer_of") rfl))
  have D_can_be : DefT K mg "can_be" (top 35) (He.codeOf K ("can_be", none)) := defT_of (c.def_ 15 (d := dd "can_be" (top 35)) rfl) (He.glo_ok X G (c.fact 15 (f := .glo "can_be") rfl))
  have D_hours_of : DefQ K mg "hours_of" (top 36) (List.map (He.Dv.v K) [.glo "YES"]) (He.codeOf K ("hours_of", none)) := defQ_of (c.def_ 16 (d := de ("hours_of", none) "hours_of" "hours_of" (top 36) [.glo "YES"]) rfl) (He.glo_ok X G (c.fact 16 (f := .glo "hours_of") rfl))
  have D_hours_by : DefT K mg "hours_by" (top 37) (He.codeOf K ("hours_by", none)) := defT_of (c.def_ 17 (d := dd "hours_by" (top 37)) rfl) (He.glo_ok X G (c.fact 17 (f := .glo "hours_by") rfl))
  have D_hours : DefT K mg "hours" (top 38) (He.codeOf K ("hours", none)) := defT_of (c.def_ 18 (d := dd "hours" (top 38)) rfl) (He.glo_ok X G (c.fact 18 (f := .glo "hours") rfl))
  have D_hours_maybe : DefT K mg "hours_maybe" (top 39) (He.codeOf K ("hours_maybe", none)) := defT_of (c.def_ 19 (d := dd "hours_maybe" (top 39)) rfl) (He.glo_ok X G (c.fact 19 (f := .glo "hours_maybe") rfl))
  have D_copied : DefT K mg "copied" (top 44) (He.codeOf K ("copied", none)) := defT_of (c.def_ 20 (d := dd "copied" (top 44)) rfl) (He.glo_ok X G (c.fact 20 (f := .glo "copied") rfl))
  have D_jump : DefT K mg "jump" (top 45) (He.codeOf K ("jump", none)) := defT_of (c.def_ 21 (d := dd "jump" (top 45)) rfl) (He.glo_ok X G (c.fact 21 (f := .glo "jump") rfl))
  have D_jumps_of : DefT K mg "jumps_of" (top 46) (He.codeOf K ("jumps_of", none)) := defT_of (c.def_ 22 (d := dd "jumps_of" (top 46)) rfl) (He.glo_ok X G (c.fact 22 (f := .glo "jumps_of") rfl))
  have D_Seats_init : MakT K mg "Seats" (He.ga K "Seats") "Seats.__init__" (inClass (top 48) 0) (He.codeOf K ("Seats", some "__init__")) := makT_of (c.def_ 23 (d := de ("Seats", some "__init__") "__init__" "Seats.__init__" (inClass (top 48) 0) []) rfl) (He.mkr_ok (c.fact 76 (f := .mkr "Seats") rfl)) (He.glo_ok X G (c.fact 69 (f := .glo "Seats") rfl))
  have D_Seats_gap : MetT K (He.ga K "Seats") "gap" "Seats.gap" (inClass (top 48) 1) (He.codeOf K ("Seats", some "gap")) := metT_of (c.def_ 24 (d := de ("Seats", some "gap") "gap" "Seats.gap" (inClass (top 48) 1) []) rfl) (He.meth_ok (c.fact 77 (f := .meth "Seats" "gap") rfl)) (He.cls_ok (c.fact 70 (f := .cls "Seats") rfl))
  have D_Seats_ways : MetT K (He.ga K "Seats") "ways" "Seats.ways" (inClass (top 48) 2) (He.codeOf K ("Seats", some "ways")) := metT_of (c.def_ 25 (d := de ("Seats", some "ways") "ways" "Seats.ways" (inClass (top 48) 2) []) rfl) (He.meth_ok (c.fact 78 (f := .meth "Seats" "ways") rfl)) (He.cls_ok (c.fact 70 (f := .cls "Seats") rfl))
  have D_Seats_raise_prices : MetT K (He.ga K "Seats") "raise_prices" "Seats.raise_prices" (inClass (top 48) 3) (He.codeOf K ("Seats", some "raise_prices")) := metT_of (c.def_ 26 (d := de ("Seats", some "raise_prices") "raise_prices" "Seats.raise_prices" (inClass (top 48) 3) []) rfl) (He.meth_ok (c.fact 79 (f := .meth "Seats" "raise_prices") rfl)) (He.cls_ok (c.fact 70 (f := .cls "Seats") rfl))
  have D_Seats_hand_on : MetT K (He.ga K "Seats") "hand_on" "Seats.hand_on" (inClass (top 48) 4) (He.codeOf K ("Seats", some "hand_on")) := metT_of (c.def_ 27 (d := de ("Seats", some "hand_on") "hand_on" "Seats.hand_on" (inClass (top 48) 4) []) rfl) (He.meth_ok (c.fact 80 (f := .meth "Seats" "hand_on") rfl)) (He.cls_ok (c.fact 70 (f := .cls "Seats") rfl))
  have D_Tight_init : MakT K mg "Tight" (He.ga K "Tight") "Tight.__init__" (inClass (top 43) 0) (He.codeOf K ("Tight", some "__init__")) := makT_of (c.def_ 28 (d := de ("Tight", some "__init__") "__init__" "Tight.__init__" (inClass (top 43) 0) []) rfl) (He.mkr_ok (c.fact 81 (f := .mkr "Tight") rfl)) (He.glo_ok X G (c.fact 65 (f := .glo "Tight") rfl))
  have D_Seats_seat : MetT K (He.ga K "Seats") "seat" "Seats.seat" (inClass (top 48) 5) (He.codeOf K ("Seats", some "seat")) := metT_of (c.def_ 29 (d := de ("Seats", some "seat") "seat" "Seats.seat" (inClass (top 48) 5) []) rfl) (He.meth_ok (c.fact 82 (f := .meth "Seats" "seat") rfl)) (He.cls_ok (c.fact 70 (f := .cls "Seats") rfl))
  have D_Moved_init : MakT K mg "Moved" (He.ga K "Moved") "Moved.__init__" (inClass (top 42) 0) (He.codeOf K ("Moved", some "__init__")) := makT_of (c.def_ 30 (d := de ("Moved", some "__init__") "__init__" "Moved.__init__" (inClass (top 42) 0) []) rfl) (He.mkr_ok (c.fact 83 (f := .mkr "Moved") rfl)) (He.glo_ok X G (c.fact 60 (f := .glo "Moved") rfl))
  have D_check_meetings : DefT K mg "check_meetings" (top 28) (He.codeOf K ("check_meetings", none)) := defT_of (c.def_ 31 (d := dd "check_meetings" (top 28)) rfl) (He.glo_ok X G (c.fact 23 (f := .glo "check_meetings") rfl))
  have D_check_olds : DefT K mg "check_olds" (top 29) (He.codeOf K ("check_olds", none)) := defT_of (c.def_ 32 (d := dd "check_olds" (top 29)) rfl) (He.glo_ok X G (c.fact 24 (f := .glo "check_olds") rfl))
  have D_table : DefT K mg "table" (top 49) (He.codeOf K ("table", none)) := defT_of (c.def_ 33 (d := dd "table" (top 49)) rfl) (He.glo_ok X G (c.fact 25 (f := .glo "table") rfl))
  have D__law_number : DefT K mg "_law_number" (top 51) (He.codeOf K ("_law_number", none)) := defT_of (c.def_ 34 (d := dd "_law_number" (top 51)) rfl) (He.glo_ok X G (c.fact 26 (f := .glo "_law_number") rfl))
  have D__law_words : DefT K mg "_law_words" (top 52) (He.codeOf K ("_law_words", none)) := defT_of (c.def_ 35 (d := dd "_law_words" (top 52)) rfl) (He.glo_ok X G (c.fact 27 (f := .glo "_law_words") rfl))
  have D__law_meeting : DefT K mg "_law_meeting" (top 54) (He.codeOf K ("_law_meeting", none)) := defT_of (c.def_ 36 (d := dd "_law_meeting" (top 54)) rfl) (He.glo_ok X G (c.fact 28 (f := .glo "_law_meeting") rfl))
  have D__law_meetings : DefT K mg "_law_meetings" (top 61) (He.codeOf K ("_law_meetings", none)) := defT_of (c.def_ 37 (d := dd "_law_meetings" (top 61)) rfl) (He.glo_ok X G (c.fact 29 (f := .glo "_law_meetings") rfl))
  have D__law_in : DefT K mg "_law_in" (top 62) (He.codeOf K ("_law_in", none)) := defT_of (c.def_ 38 (d := dd "_law_in" (top 62)) rfl) (He.glo_ok X G (c.fact 30 (f := .glo "_law_in") rfl))
  have D__law_table_right : DefT K mg "_law_table_right" (top 63) (He.codeOf K ("_law_table_right", none)) := defT_of (c.def_ 39 (d := dd "_law_table_right" (top 63)) rfl) (He.glo_ok X G (c.fact 31 (f := .glo "_law_table_right") rfl))
  have D_law : DefT K mg "law" (top 64) (He.codeOf K ("law", none)) := defT_of (c.def_ 40 (d := dd "law" (top 64)) rfl) (He.glo_ok X G (c.fact 32 (f := .glo "law") rfl))
  have n_Moved_hours : NoAttr K (He.ga K "Moved") "hours" := He.noat_ok (c.fact 62 (f := .noat "Moved" "hours") rfl)
  have n_Moved_prices : NoAttr K (He.ga K "Moved") "prices" := He.noat_ok (c.fact 63 (f := .noat "Moved" "prices") rfl)
  have n_Moved_rents : NoAttr K (He.ga K "Moved") "rents" := He.noat_ok (c.fact 64 (f := .noat "Moved" "rents") rfl)
  have n_Tight_meetings : NoAttr K (He.ga K "Tight") "meetings" := He.noat_ok (c.fact 67 (f := .noat "Tight" "meetings") rfl)
  have n_Tight_hours : NoAttr K (He.ga K "Tight") "hours" := He.noat_ok (c.fact 68 (f := .noat "Tight" "hours") rfl)
  have n_Seats_jumps : NoAttr K (He.ga K "Seats") "jumps" := He.noat_ok (c.fact 71 (f := .noat "Seats" "jumps") rfl)
  have n_Seats_hours : NoAttr K (He.ga K "Seats") "hours" := He.noat_ok (c.fact 72 (f := .noat "Seats" "hours") rfl)
  have n_Seats_prices : NoAttr K (He.ga K "Seats") "prices" := He.noat_ok (c.fact 73 (f := .noat "Seats" "prices") rfl)
  have n_Seats_rents : NoAttr K (He.ga K "Seats") "rents" := He.noat_ok (c.fact 74 (f := .noat "Seats" "rents") rfl)
  have n_Seats_holders : NoAttr K (He.ga K "Seats") "holders" := He.noat_ok (c.fact 75 (f := .noat "Seats" "holders") rfl)
  obtain ⟨x0, xr⟩ := He.ba c0.more
  obtain ⟨x1, xr⟩ := He.ba xr
  obtain ⟨x2, xr⟩ := He.ba xr
  obtain ⟨x3, xr⟩ := He.ba xr
  obtain ⟨x4, xr⟩ := He.ba xr
  obtain ⟨x5, xr⟩ := He.ba xr
  obtain ⟨x6, xr⟩ := He.ba xr
  obtain ⟨x7, xr⟩ := He.ba xr
  obtain ⟨x8, xr⟩ := He.ba xr
  obtain ⟨x9, xr⟩ := He.ba xr
  have T : Tx K mg (He.ga K "ANSWERS") := ⟨He.free_ok X G (c.fact 33 (f := .free "ValueError") rfl), He.free_ok X G (c.fact 34 (f := .free "abs") rfl), He.free_ok X G (c.fact 35 (f := .free "all") rfl), He.free_ok X G (c.fact 36 (f := .free "any") rfl), He.free_ok X G (c.fact 37 (f := .free "bool") rfl), He.free_ok X G (c.fact 38 (f := .free "enumerate") rfl), He.free_ok X G (c.fact 39 (f := .free "int") rfl), He.free_ok X G (c.fact 40 (f := .free "isinstance") rfl), He.free_ok X G (c.fact 41 (f := .free "len") rfl), He.free_ok X G (c.fact 42 (f := .free "list") rfl), He.free_ok X G (c.fact 43 (f := .free "min") rfl), He.free_ok X G (c.fact 44 (f := .free "range") rfl), He.free_ok X G (c.fact 45 (f := .free "set") rfl), He.free_ok X G (c.fact 46 (f := .free "sorted") rfl), He.free_ok X G (c.fact 47 (f := .free "str") rfl), He.free_ok X G (c.fact 48 (f := .free "sum") rfl), He.free_ok X G (c.fact 49 (f := .free "tuple") rfl), He.free_ok X G (c.fact 50 (f := .free "zip") rfl), intE (He.int_ok X G (c.fact 51 (f := .int "MOST_WORDS" 80) rfl)), intE (He.int_ok X G (c.fact 52 (f := .int "MOST_MEETINGS" 6) rfl)), intE (He.int_ok X G (c.fact 53 (f := .int "COUNTS" 99) rfl)), intE (He.int_ok X G (c.fact 54 (f := .int "HANDS" 4) rfl)), intE (He.int_ok X G (c.fact 55 (f := .int "PEOPLE" 8) rfl)), intE (He.int_ok X G (c.fact 56 (f := .int "HOURS" 12) rfl)), ⟨_, He.glo_ok X G (c.fact 57 (f := .glo "ANSWERS") rfl), rfl⟩, fun H => He.tupB_ok x0 H, ⟨_, He.glo_ok X G (c.fact 58 (f := .glo "YES") rfl), rfl⟩, fun H => He.tupB_ok x1 H, ⟨_, He.glo_ok X G (c.fact 59 (f := .glo "YES_OR_MAYBE") rfl), rfl⟩, fun H => He.tupB_ok x2 H⟩
  have e_Moved : Own K mg "Moved" (He.ga K "Moved") := own_of (He.glo_ok X G (c.fact 60 (f := .glo "Moved") rfl)) (He.cls_ok (c.fact 61 (f := .cls "Moved") rfl)) x3
  have e_Tight : Own K mg "Tight" (He.ga K "Tight") := own_of (He.glo_ok X G (c.fact 65 (f := .glo "Tight") rfl)) (He.cls_ok (c.fact 66 (f := .cls "Tight") rfl)) x4
  have e_Seats : Own K mg "Seats" (He.ga K "Seats") := own_of (He.glo_ok X G (c.fact 69 (f := .glo "Seats") rfl)) (He.cls_ok (c.fact 70 (f := .cls "Seats") rfl)) x5
  have e_BadWords : Exn K mg "BadWords" (He.ga K "BadWords") := exn_of X G (c.fact 84 (f := .glo "BadWords") rfl) (c.fact 85 (f := .exc "BadWords") rfl) x6
  have e_Unlike : Exn K mg "Unlike" (He.ga K "Unlike") := exn_of X G (c.fact 86 (f := .glo "Unlike") rfl) (c.fact 87 (f := .exc "Unlike") rfl) x7
  have i_Moved_Moved := kitEB_ok x8
  have i_Tight_Moved := kitEB_ok x9
  obtain ⟨f', fd, F, hm, hc⟩ := D_law.ex
  have e := hfa.symm.trans hm
  cases e
  have b := FunD.bindsA (ps := ["_law_script"]) F fun _ _ _ _ _ _ us hl => match us, hl with | [_], _ => rfl
  refine ⟨fd, fun s v => b s [v] rfl, fun base _ _ t_is_meeting t_can_be => ?_⟩
  have k_is_whole := ok_is_whole (P := P) (w := w) (base := base) D_is_whole T
  have k_is_number := ok_is_number D_is_number k_is_whole
  have k_is_hand := ok_is_hand D_is_hand T k_is_number
  have k_is_person := ok_is_person D_is_person T k_is_number
  have k_is_hour := ok_is_hour D_is_hour T k_is_number
  have k_is_answer := ok_is_answer (P := P) (w := w) (base := base) D_is_answer T
  have k_is_word := ok_is_word D_is_word T k_is_number k_is_hand k_is_person k_is_hour k_is_answer
  have k_copied_words := ok_copied_words D_copied_words T e_BadWords k_is_word
  have k_each_once := ok_each_once (P := P) (w := w) (base := base) D_each_once T e_Unlike
  have k_checked_words := checked0 (ok_checked_words D_checked_words k_copied_words k_each_once)
  have k_is_people := ok_is_people D_is_people T k_is_number
  have k_is_meeting := ok_is_meeting D_is_meeting t_is_meeting T k_is_number k_is_people
  have k_check_meeting := ok_check_meeting D_check_meeting k_is_meeting
  have k_answers_that_count := ok_answers_that_count (P := P) (w := w) (base := base) D_answers_that_count T
  have k_answer_of := ok_answer_of (P := P) (w := w) (K := K) (base := base) D_answer_of
  have k_can_be := ok_can_be D_can_be t_can_be T k_answer_of
  have k_hours_of2 := ok_hours_of2 D_hours_of T k_can_be
  have k_copied_int := ok_copied_int (P := P) (w := w) (base := base) D_copied T
  have k_copied_els := ok_copied_els (P := P) (w := w) (base := base) D_copied T
  have k_hours_of := ok_hours_of3 D_hours_of T k_can_be
  have k_hours_by := ok_hours_by D_hours_by T k_checked_words k_check_meeting k_answers_that_count k_hours_of
  have k_hours := ok_hours D_hours T k_hours_by
  have k_hours_maybe := ok_hours_maybe D_hours_maybe T k_hours_by
  have k_jump := ok_jump (P := P) (w := w) (base := base) D_jump T
  have k_jumps_of := ok_jumps_of D_jumps_of T T.h_YES k_jump k_answers_that_count k_hours_of2
  have k_Seats := ok_Seats_init (P := P) (w := w) (base := base) D_Seats_init T e_Seats n_Seats_jumps n_Seats_hours n_Seats_prices n_Seats_rents n_Seats_holders
  have k_Seats_gap := ok_gap (P := P) (w := w) (base := base) (mg := mg) D_Seats_gap e_Seats n_Seats_jumps n_Seats_prices n_Seats_rents
  have k_Seats_ways := ok_ways D_Seats_ways e_Seats n_Seats_jumps k_Seats_gap
  have k_Seats_raise := ok_raise (P := P) (w := w) (base := base) (mg := mg) D_Seats_raise_prices e_Seats n_Seats_prices n_Seats_rents
  have k_Seats_hand := ok_hand (P := P) (w := w) (base := base) (mg := mg) D_Seats_hand_on e_Seats n_Seats_hours n_Seats_holders
  have k_Tight := ok_Tight_init D_Tight_init e_Tight n_Tight_meetings n_Tight_hours k_copied_els
  have k_Seats_seat := ok_seat D_Seats_seat T e_Seats n_Seats_holders k_Tight k_Seats_ways k_Seats_raise k_Seats_hand
  have k_Moved := ok_Moved_init D_Moved_init e_Moved n_Moved_hours n_Moved_prices n_Moved_rents k_copied_els
  have k_check_meetings := ok_check_meetings D_check_meetings T k_check_meeting
  have k_check_olds := ok_check_olds D_check_olds T k_is_hour
  have k_table := ok_table D_table T e_Seats n_Seats_hours n_Seats_prices n_Seats_rents k_checked_words k_check_meetings k_check_olds k_jumps_of k_Seats k_Seats_seat k_Moved
  have k_law_number := ok_law_number (P := P) (w := w) (base := base) D__law_number
  have k_law_meeting := ok_law_meeting (P := P) (w := w) (base := base) D__law_meeting T
  have k_law_words := ok_law_words D__law_words T k_law_number
  have k_law_meetings := ok_law_meetings D__law_meetings T k_law_number k_law_meeting
  have k_law_in := ok_law_in (P := P) (w := w) (base := base) D__law_in T
  have k_law_table_right := ok_law_table_right D__law_table_right T e_Moved e_Tight n_Moved_hours n_Moved_prices n_Moved_rents i_Moved_Moved i_Tight_Moved (table2 k_table)
  exact fnok_of F hc sc_law (fun vs H Q E h => by obtain ⟨a, ns, rfl, _⟩ := h; rfl) fun A outer s H vs Q E hr h => ok_law T k_law_number k_law_words k_law_meeting k_law_meetings k_law_in k_hours k_hours_maybe k_law_table_right hr h
end CH
end

set_option Elab.async false
set_option linter.all false
open PySem PySem.W PySem.Calls PyProof.Rows
set_option maxRecDepth 100000 in
set_option maxHeartbeats 0 in
theorem PySem.Challenge.cw_commonhour_k07_whole_kin_holds : PySem.Challenge.rw_commonhour_k07_whole_kin.Holds := by
  w_on; o_law
  refine HandSHeadRun.head_any (r := OpenLaw.row PySem.Challenge.rw_commonhour_k07_whole_kin) (q := view (OpenLaw.row PySem.Challenge.rw_commonhour_k07_whole_kin).prog [64]) (H := CH.hk) (ob := CH.ob) (M := 12000) (loose := CH.loose) (d := HandSHeadRun.topDef (OpenLaw.row PySem.Challenge.rw_commonhour_k07_whole_kin).prog 64) (kwd := []) CH.ob_eq
    (by kernel_rfl) (fun s => by kernel_rfl) CH.run (by kernel_rfl) (by kernel_rfl) (by kernel_rfl) (by rfl) (by first | assumption | decide +kernel) (by decide +kernel) ⟨rfl, rfl, rfl, rfl, rfl, by decide +kernel⟩ ?hw ?hc
  case hw => w_witness2
  case hc =>
    refine LamX.walk_ofTsE (l := PySem.Challenge.rw_commonhour_k07_whole_kin) (n := 63) (k := 10) (x := "_law_script") (CX := fun _ => L2.CX0) rfl (by decide) (by kernel_rfl) ⟨rfl, by decide, by decide⟩ ?F (fun _ _ _ _ _ z => z)
    intro w mg fa h Y G hmg0
    obtain ⟨K, KX, c⟩ := Y
    have hmg : mg ("law" : PySem.Str) = some (.ref fa) := by
      have e : (HandSHeadRun.topDef (OpenLaw.row PySem.Challenge.rw_commonhour_k07_whole_kin).prog 64).name = ("law" : PySem.Str) := by kernel_rfl
      rw [← e]
      exact hmg0
    obtain ⟨fd, hb, hF⟩ := CH.facts (P := (PySem.Challenge.rw_commonhour_k07_whole_kin).prog) (w := w) KX G hmg c
    refine ⟨K, KX, fd, CH.tf.map (He.cT K), CH.sp_law K (He.cT K ("is_meeting", none)).2 (He.cT K ("can_be", none)).2, ?_, ?_, ?_, hb, ?_, ?_⟩
    · intro p hp
      obtain ⟨x, hx, rfl⟩ := List.mem_map.mp hp
      exact c.empty _ hx
    · intro p hp
      obtain ⟨x, hx, rfl⟩ := List.mem_map.mp hp
      exact c.out _ hx
    · intro p hp
      obtain ⟨x, hx, rfl⟩ := List.mem_map.mp hp
      exact PySem.W.codeHd_of_K KX (c.hd _ hx)
    · intro H a ns hl hbits hT hS
      exact ⟨a, ns, rfl, hS, hl, fun z hz => CH.bits_of (hbits z hz), ⟨#[], (hT _ (List.mem_map.mpr ⟨_, (.head _), rfl⟩)), True.intro⟩, ⟨#[], (hT _ (List.mem_map.mpr ⟨_, (.tail _ (.head _)), rfl⟩)), True.intro⟩, fun _ => rfl⟩
    · exact fun base hB hN hT => hF base hB hN ⟨(hT _ (List.mem_map.mpr ⟨_, (.head _), rfl⟩)).code, (hT _ (List.mem_map.mpr ⟨_, (.head _), rfl⟩)).bm, (hT _ (List.mem_map.mpr ⟨_, (.head _), rfl⟩)).gP⟩ ⟨(hT _ (List.mem_map.mpr ⟨_, (.tail _ (.head _)), rfl⟩)).code, (hT _ (List.mem_map.mpr ⟨_, (.tail _ (.head _)), rfl⟩)).bm, (hT _ (List.mem_map.mpr ⟨_, (.tail _ (.head _)), rfl⟩)).gP⟩
