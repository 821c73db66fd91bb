import PyProof.Rows.All
import Wide.All
import OpenK.AllK
import Wide.FinOn
import PyProof.EqAt
import PyProof.EqKinds
import PyProof.TupleCall
import PyProof.ReprRoads
import HandS.Base
import HandS.Call
import HandS.List
import HandS.Dict
import PyProof.ReprBulk
import PyProof.ReprRoom
import PyProof.FitsInt
import KE.KMathG
import HandS.Gcd
import HandS.TupMul
import HandS.Style
import KE.KRevSl
import HandS.Ends
import HandS.Words
import HandS.EndBits
import KE.KSuper
import KE.KExcInit
import KE.KIsAll
import KE.KExcIs
import HandS.Exc
import HandS.ExcSuper
import HandS.ExcIs
import HandS.TryMany
import HandS.ForMost
import HandS.Wide
import HandS.Conv
import HandS.IsInst
import HandS.Flow
import HandS.TupAny
import HandS.Evl
import HandS.WordsExc
import HandS.ExcOwn
import PySem.Challenge.RW_eyeorder_k04_where_lines_meet
set_option Elab.async false
set_option linter.all false
set_option exponentiation.threshold 3000
set_option maxRecDepth 100000
set_option maxHeartbeats 4000000

namespace Ey
open PySem PySem.Spec PyProof.Rows L2

mutual
/-- data that stands in a heap: what repr needs to know of it -/
inductive Rdd (h : Heap) : Value → PyData → Prop
  | non : Rdd h .none .none
  | bl (b : Bool) : Rdd h (.bool b) (.bool b)
  | int (i : Int) (t : Tok) : Rdd h (.int i t) (.int i)
  | str (x : Str) (t : Tok) : Rdd h (.str x t) (.str x)
  | lst {a : Addr} {o : Obj} {vs : Array Value} {n : Nat} {xs : List PyData} : h.get? a = some o → o.cls = .type "list" → o.data = .seq vs n → RddAll h vs.toList xs → Rdd h (.ref a) (.list xs)
  | tup {a : Addr} {o : Obj} {vs : Array Value} {n : Nat} {xs : List PyData} : h.get? a = some o → o.cls = .type "tuple" → o.data = .seq vs n → RddAll h vs.toList xs → Rdd h (.ref a) (.tuple xs)
  | dic {a : Addr} {o : Obj} {es : Array DictEntry} {n : Nat} {ks : List (PyData × PyData)} : h.get? a = some o → o.cls = .type "dict" → o.data = .dict es n → (a == sysModules) = false →
      RddAll h (es.toList.map (·.key)) (ks.map (·.1)) → RddAll h (es.toList.map (·.val)) (ks.map (·.2)) → Rdd h (.ref a) (.dict ks)
inductive RddAll (h : Heap) : List Value → List PyData → Prop
  | nil : RddAll h [] []
  | cons {v : Value} {vs : List Value} {d : PyData} {ds : List PyData} : Rdd h v d → RddAll h vs ds → RddAll h (v :: vs) (d :: ds)
end

section
variable {h : Heap}
mutual
theorem Rdd.reads : ∀ {v : Value} {d : PyData}, Rdd h v d → ∃ as, Reads h v d as
  | _, _, .non => ⟨_, .none⟩
  | _, _, .bl b => ⟨_, .bool b⟩
  | _, _, .int i t => ⟨_, .int i t⟩
  | _, _, .str x t => ⟨_, .str x t⟩
  | _, _, .lst e1 e2 e3 e4 => let ⟨_, r⟩ := e4.reads; ⟨_, .list e1 e2 e3 r⟩
  | _, _, .tup e1 e2 e3 e4 => let ⟨_, r⟩ := e4.reads; ⟨_, .tuple e1 e2 e3 r⟩
  | _, _, .dic e1 e2 e3 _ e4 e5 => let ⟨_, r⟩ := e4.reads; let ⟨_, q⟩ := e5.reads; ⟨_, .dict e1 e2 e3 r q⟩
theorem RddAll.reads : ∀ {vs : List Value} {ds : List PyData}, RddAll h vs ds → ∃ as, ReadsAll h vs ds as
  | _, _, .nil => ⟨_, .nil⟩
  | _, _, .cons a b => let ⟨_, r⟩ := a.reads; let ⟨_, q⟩ := b.reads; ⟨_, .cons r q⟩
end
end

section
variable {prog : Program} {w : World} {h₀ : Heap}
mutual
theorem Rdd.k : ∀ {v : Value} {d : PyData}, Rdd h₀ v d → d.showable = true → d.shown.length ≤ sizeLine → ∃ bs, ReadAtMost h₀ d.depth bs ∧ ReprK prog w bs h₀ d.depth v d.shown
  | _, _, .non, _, _ => ⟨[], (fun _ q => nomatch q), by simp only [PyData.shown]; exact ReprK.of_is ReprIs.none [] h₀ _⟩
  | _, _, .bl b, _, _ => ⟨[], (fun _ q => nomatch q), by simp only [PyData.shown]; exact ReprK.of_is (ReprIs.bool b) [] h₀ _⟩
  | _, _, .int i t, hs, _ => ⟨[], (fun _ q => nomatch q), by simp only [PyData.shown]; exact ReprK.of_is (ReprIs.int t (by simpa [PyData.showable] using hs)) [] h₀ _⟩
  | _, _, .str x t, _, hz => ⟨[], (fun _ q => nomatch q), by simp only [PyData.shown]; exact ReprK.of_is (ReprIs.str x t (by simpa only [PyData.shown] using hz)) [] h₀ _⟩
  | _, _, .lst (a := a) (vs := vs) (xs := xs) e1 e2 e3 e4, hs, hz => by
    have z : (listText (PyData.shownAll xs)).length ≤ sizeLine := by simpa only [PyData.shown] using hz
    obtain ⟨bs, hb, hk⟩ := RddAll.k e4 (by simpa [PyData.showable] using hs) (fun t ht => Nat.le_trans (listText_mem_le ht) z)
    obtain ⟨_, r⟩ := Rdd.reads (Rdd.lst e1 e2 e3 e4)
    have na : a ∉ bs := not_mem_of_deeper r (by simp only [PyData.depth]; omega) hb
    refine ⟨a :: bs, ReadAtMost.cons r (by simp only [PyData.depth]; omega) hb, ?_⟩
    simp only [PyData.depth, PyData.shown]
    obtain ⟨l⟩ := vs
    cases l with
    | nil =>
      have e5 : RddAll h₀ [] xs := e4
      cases e5
      simp only [PyData.shownAll, listText_nil]
      exact ReprK.listEmpty e1 e2 e3
    | cons x l => exact ReprK.list e1 e2 e3 na (by simpa using hk.length_eq) (fun i y e => hk.item i y (by simpa using e))
  | _, _, .tup (a := a) (xs := xs) e1 e2 e3 e4, hs, hz => by
    have z : (tupleText (PyData.shownAll xs)).length ≤ sizeLine := by simpa only [PyData.shown] using hz
    obtain ⟨bs, hb, hk⟩ := RddAll.k e4 (by simpa [PyData.showable] using hs) (fun t ht => Nat.le_trans (tupleText_mem_le ht) z)
    obtain ⟨_, r⟩ := Rdd.reads (Rdd.tup e1 e2 e3 e4)
    have na : a ∉ bs := not_mem_of_deeper r (by simp only [PyData.depth]; omega) hb
    refine ⟨a :: bs, ReadAtMost.cons r (by simp only [PyData.depth]; omega) hb, ?_⟩
    simp only [PyData.depth, PyData.shown]
    exact ReprK.tuple e1 e2 e3 na hk
  | _, _, .dic (a := a) (es := es) (ks := ks) e1 e2 e3 e6 e4 e5, hs, hz => by
    have z : (dictText (PyData.shownKv ks)).length ≤ sizeLine := by simpa only [PyData.shown] using hz
    obtain ⟨s1, s2⟩ := PyData.showableKv_split ks (by simpa [PyData.showable] using hs)
    obtain ⟨b1, hb1, k1⟩ := RddAll.k e4 s1 (fun t ht => let ⟨p, hp, hl⟩ := PyData.shownKv_key_le ks t ht; Nat.le_trans hl (Nat.le_trans (dictText_mem_le hp) z))
    obtain ⟨b2, hb2, k2⟩ := RddAll.k e5 s2 (fun t ht => let ⟨p, hp, hl⟩ := PyData.shownKv_val_le ks t ht; Nat.le_trans hl (Nat.le_trans (dictText_mem_le hp) z))
    obtain ⟨_, r⟩ := Rdd.reads (Rdd.dic e1 e2 e3 e6 e4 e5)
    have hb : ReadAtMost h₀ (PyData.depthKv ks) (b1 ++ b2) := (hb1.mono (PyData.depthAll_keys_le ks)).append (hb2.mono (PyData.depthAll_vals_le ks))
    have na : a ∉ b1 ++ b2 := not_mem_of_deeper r (by simp only [PyData.depth]; omega) hb
    refine ⟨a :: (b1 ++ b2), ReadAtMost.cons r (by simp only [PyData.depth]; omega) hb, ?_⟩
    simp only [PyData.depth, PyData.shown, PyData.shownKv_eq]
    exact ReprK.dict e1 e2 e3 e6 na (ReprEntriesK.of_two es.toList _ _
      (k1.more_le (fun b hm => List.mem_append_left _ hm) (PyData.depthAll_keys_le ks)) (k2.more_le (fun b hm => List.mem_append_right _ hm) (PyData.depthAll_vals_le ks)))
theorem RddAll.k : ∀ {vs : List Value} {ds : List PyData}, RddAll h₀ vs ds → PyData.showableAll ds = true → (∀ t ∈ PyData.shownAll ds, t.length ≤ sizeLine) →
    ∃ bs, ReadAtMost h₀ (PyData.depthAll ds) bs ∧ ReprAllK prog w bs h₀ (PyData.depthAll ds) vs (PyData.shownAll ds)
  | _, _, .nil, _, _ => ⟨[], (fun _ q => nomatch q), by simp only [PyData.shownAll]; exact .nil⟩
  | _, _, .cons (d := d) (ds := ds) r rs, hs, hz => by
    have s2 : d.showable = true ∧ PyData.showableAll ds = true := by simpa [PyData.showableAll] using hs
    obtain ⟨b1, hb1, k1⟩ := Rdd.k r s2.1 (hz _ (by simp only [PyData.shownAll]; exact List.mem_cons_self ..))
    obtain ⟨b2, hb2, k2⟩ := RddAll.k rs s2.2 (fun t ht => hz t (by simp only [PyData.shownAll]; exact List.mem_cons_of_mem _ ht))
    refine ⟨b1 ++ b2, ?_, ?_⟩
    · simp only [PyData.depthAll]
      exact (hb1.mono (Nat.le_max_left _ _)).append (hb2.mono (Nat.le_max_right _ _))
    · simp only [PyData.depthAll, PyData.shownAll]
      exact .cons ((k1.more fun b hm => List.mem_append_left _ hm).level_le (Nat.le_max_left _ _)) (k2.more_le (fun b hm => List.mem_append_right _ hm) (Nat.le_max_right _ _))
end


theorem call_repr_any : ∀ {v : Value} {d : PyData}, Rdd h₀ v d → d.showable = true → d.shown.length ≤ sizeLine →
    ∀ (A : Around) (E : Value → Shared → Prop) (s : Shared) (Q : Value → Shared → Prop), A.guards = some [] → A.units + (d.depth + 1) < cLine → (∀ b o, h₀.get? b = some o → s.heap.get? b = some o) →
    (∀ h' u tk, (∀ b o, s.heap.get? b = some o → h'.get? b = some o) → Q (.str d.shown u) { s with heap := h', toks := tk }) → wpAny (model prog w) A (call (.builtin "repr") [v]) Q E s
  | _, _, .non, _, _, A, E, s, Q, _, _, _, hQ => by
    simp only [PyData.shown] at hQ
    exact P.repr_of_none (hQ s.heap _ _ fun _ _ e => e)
  | _, _, .bl b, _, _, A, E, s, Q, _, _, _, hQ => by
    simp only [PyData.shown] at hQ
    exact P.repr_of_bool (hQ s.heap _ _ fun _ _ e => e)
  | _, _, .int i t, hs, _, A, E, s, Q, _, _, _, hQ => by
    simp only [PyData.shown] at hQ
    exact P.repr_of_int (by simpa [PyData.showable] using hs) (hQ s.heap _ _ fun _ _ e => e)
  | _, _, .str x t, _, hz, A, E, s, Q, _, _, _, hQ => by
    simp only [PyData.shown] at hQ
    exact P.repr_of_str (hQ s.heap _ _ fun _ _ e => e) (by simpa only [PyData.shown] using hz)
  | _, _, .lst (a := a) (vs := vs) (xs := xs) e1 e2 e3 e4, hs, hz, A, E, s, Q, hg, hu, hk0, hQ => by
    have z : (listText (PyData.shownAll xs)).length ≤ sizeLine := by simpa only [PyData.shown] using hz
    obtain ⟨bs, hb, hk⟩ := RddAll.k (prog := prog) (w := w) e4 (by simpa [PyData.showable] using hs) (fun t ht => Nat.le_trans (listText_mem_le ht) z)
    obtain ⟨_, r⟩ := Rdd.reads (Rdd.lst e1 e2 e3 e4)
    have na : a ∉ bs := not_mem_of_deeper r (by simp only [PyData.depth]; omega) hb
    simp only [PyData.depth] at hu
    simp only [PyData.shown] at hQ
    refine call_repr_slot (by omega) ⟨_, hk0 _ _ e1, e2⟩ F.slot_list_repr.toG ?_
    obtain ⟨l⟩ := vs
    cases l with
    | nil =>
      have e5 : RddAll h₀ [] xs := e4
      cases e5
      simp only [PyData.shownAll, listText_nil] at hQ
      exact call_list_repr_empty ⟨_, hk0 _ _ e1, e2⟩ (hk0 _ _ e1) e3 ⟨_, _, rfl, hQ s.heap _ _ fun _ _ e => e⟩
    | cons x l =>
      exact call_list_reprK e1 e2 e3 na (by simpa using hk.length_eq) (fun i y e => hk.item i y (by simpa using e)) hg (fun b _ => Clear.nil b) (by show A.units + 1 + _ < cLine; omega) hk0 (fun h' u tk k => ⟨_, _, rfl, hQ h' u tk k⟩) z
  | _, _, .tup (a := a) (xs := xs) e1 e2 e3 e4, hs, hz, A, E, s, Q, hg, hu, hk0, hQ => by
    have z : (tupleText (PyData.shownAll xs)).length ≤ sizeLine := by simpa only [PyData.shown] using hz
    obtain ⟨bs, hb, hk⟩ := RddAll.k (prog := prog) (w := w) e4 (by simpa [PyData.showable] using hs) (fun t ht => Nat.le_trans (tupleText_mem_le ht) z)
    obtain ⟨_, r⟩ := Rdd.reads (Rdd.tup e1 e2 e3 e4)
    have na : a ∉ bs := not_mem_of_deeper r (by simp only [PyData.depth]; omega) hb
    simp only [PyData.depth] at hu
    simp only [PyData.shown] at hQ
    refine call_repr_slot (by omega) ⟨_, hk0 _ _ e1, e2⟩ F.slot_tuple_repr ?_
    exact call_tuple_reprK e1 e2 e3 na hk hg (fun b _ => Clear.nil b) (by show A.units + 1 + _ < cLine; omega) hk0 (fun h' u tk k => ⟨_, _, rfl, hQ h' u tk k⟩) z
  | _, _, .dic (a := a) (es := es) (ks := ks) e1 e2 e3 e6 e4 e5, hs, hz, A, E, s, Q, hg, hu, hk0, hQ => by
    have z : (dictText (PyData.shownKv ks)).length ≤ sizeLine := by simpa only [PyData.shown] using hz
    obtain ⟨s1, s2⟩ := PyData.showableKv_split ks (by simpa [PyData.showable] using hs)
    obtain ⟨b1, hb1, k1⟩ := RddAll.k (prog := prog) (w := w) e4 s1 (fun t ht => let ⟨p, hp, hl⟩ := PyData.shownKv_key_le ks t ht; Nat.le_trans hl (Nat.le_trans (dictText_mem_le hp) z))
    obtain ⟨b2, hb2, k2⟩ := RddAll.k (prog := prog) (w := w) e5 s2 (fun t ht => let ⟨p, hp, hl⟩ := PyData.shownKv_val_le ks t ht; Nat.le_trans hl (Nat.le_trans (dictText_mem_le hp) z))
    obtain ⟨_, r⟩ := Rdd.reads (Rdd.dic e1 e2 e3 e6 e4 e5)
    have hb : ReadAtMost h₀ (PyData.depthKv ks) (b1 ++ b2) := (hb1.mono (PyData.depthAll_keys_le ks)).append (hb2.mono (PyData.depthAll_vals_le ks))
    have na : a ∉ b1 ++ b2 := not_mem_of_deeper r (by simp only [PyData.depth]; omega) hb
    simp only [PyData.depth] at hu
    simp only [PyData.shown, PyData.shownKv_eq] at hQ
    refine call_repr_slot (by omega) ⟨_, hk0 _ _ e1, e2⟩ F.slot_dict_repr ?_
    exact call_dict_reprK e1 e2 e3 e6 na (ReprEntriesK.of_two es.toList _ _
      (k1.more_le (fun b hm => List.mem_append_left _ hm) (PyData.depthAll_keys_le ks)) (k2.more_le (fun b hm => List.mem_append_right _ hm) (PyData.depthAll_vals_le ks)))
      hg (fun b _ => Clear.nil b) (by show A.units + 1 + _ < cLine; omega) hk0 (fun h' u tk k => ⟨_, _, rfl, hQ h' u tk k⟩) (by rw [← PyData.shownKv_eq]; exact z)
end

/-! ### data over the abstract heap -/
/-- a key as data -/
def kD : Key → PyData
  | .inl i => .int i
  | .inr x => .str x
mutual
/-- data: lists and dicts at addresses of which F holds -/
inductive Dd (F : Addr → Prop) (H : Hp) : V → PyData → Prop
  | non : Dd F H .non .none
  | bl (b : Bool) : Dd F H (.bl b) (.bool b)
  | int (i : Int) : Dd F H (.int i) (.int i)
  | str (x : Str) : Dd F H (.str x) (.str x)
  | lst {a : Addr} {xs : List V} {ds : List PyData} : F a → H a = some (.lst xs) → DdAll F H xs ds → Dd F H (.ref a) (.list ds)
  | tup {a : Addr} {xs : List V} {ds : List PyData} : H a = some (.tup xs) → DdAll F H xs ds → Dd F H (.ref a) (.tuple ds)
  | dic {a : Addr} {kvs : List (Key × V)} {ds : List PyData} : F a → H a = some (.dK kvs) → DdAll F H (kvs.map (·.2)) ds → Dd F H (.ref a) (.dict ((kvs.map fun kv => kD kv.1).zip ds))
inductive DdAll (F : Addr → Prop) (H : Hp) : List V → List PyData → Prop
  | nil : DdAll F H [] []
  | cons {v : V} {vs : List V} {d : PyData} {ds : List PyData} : Dd F H v d → DdAll F H vs ds → DdAll F H (v :: vs) (d :: ds)
end
theorem DdAll.length {F : Addr → Prop} {H : Hp} : ∀ {vs : List V} {ds : List PyData}, DdAll F H vs ds → vs.length = ds.length
  | _, _, .nil => rfl
  | _, _, .cons _ r => by rw [List.length_cons, List.length_cons, DdAll.length r]
section
variable {F : Addr → Prop} {H H' : Hp}
mutual
/-- what the data's objects are, stays -/
theorem Dd.keep (k : ∀ a o, H a = some o → (F a ∨ ∃ xs, o = .tup xs) → H' a = some o) : ∀ {v : V} {d : PyData}, Dd F H v d → Dd F H' v d
  | _, _, .non => .non
  | _, _, .bl b => .bl b
  | _, _, .int i => .int i
  | _, _, .str x => .str x
  | _, _, .lst f e r => .lst f (k _ _ e (.inl f)) (DdAll.keep k r)
  | _, _, .tup e r => .tup (k _ _ e (.inr ⟨_, rfl⟩)) (DdAll.keep k r)
  | _, _, .dic f e r => .dic f (k _ _ e (.inl f)) (DdAll.keep k r)
theorem DdAll.keep (k : ∀ a o, H a = some o → (F a ∨ ∃ xs, o = .tup xs) → H' a = some o) : ∀ {vs : List V} {ds : List PyData}, DdAll F H vs ds → DdAll F H' vs ds
  | _, _, .nil => .nil
  | _, _, .cons a b => .cons (Dd.keep k a) (DdAll.keep k b)
end
mutual
theorem Dd.det : ∀ {v : V} {d e : PyData}, Dd F H v d → Dd F H v e → d = e
  | _, _, _, .non, b => by cases b; rfl
  | _, _, _, .bl _, b => by cases b; rfl
  | _, _, _, .int _, b => by cases b; rfl
  | _, _, _, .str _, b => by cases b; rfl
  | _, _, _, .lst _ e r, b => by
    cases b with
    | lst _ e2 r2 => rw [e] at e2; cases e2; rw [DdAll.det r r2]
    | tup e2 _ => rw [e] at e2; cases e2
    | dic _ e2 _ => rw [e] at e2; cases e2
  | _, _, _, .tup e r, b => by
    cases b with
    | lst _ e2 _ => rw [e] at e2; cases e2
    | tup e2 r2 => rw [e] at e2; cases e2; rw [DdAll.det r r2]
    | dic _ e2 _ => rw [e] at e2; cases e2
  | _, _, _, .dic _ e r, b => by
    cases b with
    | lst _ e2 _ => rw [e] at e2; cases e2
    | tup e2 _ => rw [e] at e2; cases e2
    | dic _ e2 r2 => rw [e] at e2; cases e2; rw [DdAll.det r r2]
theorem DdAll.det : ∀ {vs : List V} {ds es : List PyData}, DdAll F H vs ds → DdAll F H vs es → ds = es
  | _, _, _, .nil, b => by cases b; rfl
  | _, _, _, .cons a r, b => by
    cases b with
    | cons a2 r2 => rw [Dd.det a a2, DdAll.det r r2]
end
end
section
variable {X : Cx} {pins : List (Addr × Obj)} {σ : L2.St} {F : Addr → Prop} {H : Hp} {s : Shared}
theorem keys_rdd {P : Program} {w : World} : ∀ {es : List DictEntry} {kvs : List (Key × Value)}, Pairs (mixKind P w) es kvs → RddAll s.heap (es.map (·.key)) (kvs.map fun kv => kD kv.1)
  | _, _, .nil => .nil
  | _, _, .cons (e := en) (kv := kv) i _ r => by
    refine .cons ?_ (keys_rdd r)
    show Rdd _ en.key (kD kv.1)
    rcases keyIs_shape i with ⟨z, t, e1, e2⟩ | ⟨z, t, e1, e2⟩
    · rw [e1, e2]; exact .int z t
    · rw [e1, e2]; exact .str z t
theorem vals_of_pairs {P : Program} {w : World} : ∀ {es : List DictEntry} {kvs : List (Key × Value)}, Pairs (mixKind P w) es kvs → es.map (·.val) = kvs.map (·.2)
  | _, _, .nil => rfl
  | _, _, .cons _ e r => by rw [List.map_cons, List.map_cons, e, vals_of_pairs r]
theorem kv_keys : ∀ {kvs : List (Key × V)} {ws : List (Key × Value)}, KV kvs ws → (ws.map fun kv => kD kv.1) = kvs.map fun kv => kD kv.1
  | _, _, .nil => rfl
  | _, _, .cons e r => by rw [List.map_cons, List.map_cons, e.1, kv_keys r]
theorem kv_vals : ∀ {kvs : List (Key × V)} {ws : List (Key × Value)}, KV kvs ws → Vals (kvs.map (·.2)) (ws.map (·.2))
  | _, _, .nil => .nil
  | _, _, .cons e r => .cons e.2 (kv_vals r)
mutual
theorem Dd.rdd (I : Inv X pins σ H s) : ∀ {v : V} {d : PyData}, Dd F H v d → ∀ {u : Value}, RelV v u → Rdd s.heap u d
  | _, _, .non, _, r => by cases r; exact .non
  | _, _, .bl b, _, r => by cases r; exact .bl b
  | _, _, .int i, _, r => by obtain ⟨t, rfl⟩ := r; exact .int i t
  | _, _, .str x, _, r => by obtain ⟨t, rfl⟩ := r; exact .str x t
  | _, _, .lst _ e q, _, r => by
    cases r
    obtain ⟨_, its, n, rv, ho⟩ := I.hok _ _ e
    exact .lst ho rfl rfl (DdAll.rdd I q (by simpa using rv))
  | _, _, .tup e q, _, r => by
    cases r
    obtain ⟨_, its, rv, o, ho, hc, n, hd⟩ := I.hok _ _ e
    exact .tup ho hc hd (DdAll.rdd I q (by simpa using rv))
  | _, _, .dic (a := a) (kvs := kvs) (ds := ds) _ e q, _, r => by
    cases r
    obtain ⟨_, hy, ws, rv, o, es, ep, ho, hc, hd, _, hp, _⟩ := (show ObjOk X.prog X.w H s.heap a (.dK kvs) from I.hok _ _ e)
    have hl : (kvs.map fun kv => kD kv.1).length = ds.length := by rw [List.length_map, ← q.length, List.length_map]
    refine .dic ho hc.1 hd hy ?_ ?_
    · rw [List.map_fst_zip (Nat.le_of_eq hl), ← kv_keys rv]
      exact keys_rdd hp
    · rw [List.map_snd_zip (Nat.le_of_eq hl.symm), vals_of_pairs hp]
      exact DdAll.rdd I q (kv_vals rv)
theorem DdAll.rdd (I : Inv X pins σ H s) : ∀ {vs : List V} {ds : List PyData}, DdAll F H vs ds → ∀ {us : List Value}, Vals vs us → RddAll s.heap us ds
  | _, _, .nil, _, r => by cases r; exact .nil
  | _, _, .cons a b, _, r => by
    cases r with
    | cons r1 r2 => exact .cons (Dd.rdd I a r1) (DdAll.rdd I b r2)
end
end
/-! all integers within are below this -/
mutual
def ibD : PyData → Bool
  | .int i => decide (i.natAbs < 2 ^ 250)
  | .list xs => ibAll xs
  | .tuple xs => ibAll xs
  | .dict kvs => ibKv kvs
  | _ => true
def ibAll : List PyData → Bool
  | [] => true
  | d :: ds => ibD d && ibAll ds
def ibKv : List (PyData × PyData) → Bool
  | [] => true
  | (k, v) :: r => ibD k && (ibD v && ibKv r)
end
/-- data that repr tells -/
structure Rz (n m : Nat) (d : PyData) : Prop where
  sh : d.showable = true
  ls : d.leavesShort 2000 = true
  bk : d.bulk ≤ n
  dp : d.depth ≤ m
/-- data of bounded size -/
structure Sz (n m : Nat) (d : PyData) : Prop extends Rz n m d where
  ib : ibD d = true
instance {n m : Nat} {d : PyData} : Coe (Sz n m d) (Rz n m d) := ⟨Sz.toRz⟩
theorem Rz.mono {n m n' m' : Nat} {d : PyData} (z : Rz n m d) (h1 : n ≤ n') (h2 : m ≤ m') : Rz n' m' d := ⟨z.sh, z.ls, Nat.le_trans z.bk h1, Nat.le_trans z.dp h2⟩
theorem Sz.mono {n m n' m' : Nat} {d : PyData} (z : Sz n m d) (h1 : n ≤ n') (h2 : m ≤ m') : Sz n' m' d := ⟨z.toRz.mono h1 h2, z.ib⟩
theorem sz_none : Sz 0 0 .none := ⟨⟨rfl, by simp [PyData.leavesShort], by simp [PyData.bulk], by simp [PyData.depth]⟩, by simp [ibD]⟩
theorem sz_bool (b : Bool) : Sz 0 0 (.bool b) := ⟨⟨rfl, by simp [PyData.leavesShort], by simp [PyData.bulk], by simp [PyData.depth]⟩, by simp [ibD]⟩
theorem rz_int {i : Int} (g : i.natAbs.log2 < 1920) : Rz 0 0 (.int i) := by
  refine ⟨by simp [PyData.showable, g], ?_, by simp [PyData.bulk], by simp [PyData.depth]⟩
  have e := int_text_length_le (by decide : 0 < 1920) g
  rw [← PySem.ofString_length] at e
  unfold PyData.leavesShort
  exact decide_eq_true (show (Str.ofString (toString i)).length ≤ 2000 from Nat.le_trans e (by decide))
theorem sz_int {i : Int} (h : i.natAbs < 2 ^ 250) : Sz 0 0 (.int i) := ⟨rz_int (log2_small (Nat.lt_of_lt_of_le h (Nat.pow_le_pow_right (by decide) (by decide)))), by unfold ibD; exact decide_eq_true h⟩
theorem ib_int {i : Int} (h : ibD (.int i) = true) : i.natAbs < 2 ^ 250 := by
  unfold ibD at h
  exact of_decide_eq_true h
theorem sh_int {i : Int} (h : PyData.showable (.int i) = true) : i.natAbs.log2 < 1920 := by simpa [PyData.showable] using h
theorem lt_log {n : Nat} (h : n.log2 < 1920) : n < 2 ^ 2000 := by
  by_cases h0 : n = 0
  · rw [h0]
    exact Nat.pow_pos (by decide)
  · exact Nat.lt_of_lt_of_le ((Nat.log2_lt h0).mp h) (Nat.pow_le_pow_right (by decide) (by decide))
theorem log_le {m n : Nat} (h : m ≤ n) (g : n.log2 < 1920) : m.log2 < 1920 := by
  by_cases h0 : m = 0
  · rw [h0]
    decide
  · have hn : n ≠ 0 := by omega
    exact (Nat.log2_lt h0).mpr (Nat.lt_of_le_of_lt h ((Nat.log2_lt hn).mp g))
theorem sz_str {x : Str} {n : Nat} (h : (x.cps.toList.all fun c => decide (c < 16 ^ 8)) = true) (hn : x.cps.size ≤ n) : Sz n 0 (.str x) :=
  ⟨⟨by simp [PyData.showable], by simpa only [PyData.leavesShort] using h, by simpa only [PyData.bulk] using hn, by simp [PyData.depth]⟩, by simp [ibD]⟩
/-- all of a list -/
structure RzA (n m : Nat) (ds : List PyData) : Prop where
  sh : PyData.showableAll ds = true
  ls : PyData.leavesShortAll 2000 ds = true
  bk : PyData.bulkAll ds ≤ n
  dp : PyData.depthAll ds ≤ m
structure SzA (n m : Nat) (ds : List PyData) : Prop extends RzA n m ds where
  ib : ibAll ds = true
theorem rza_nil {m : Nat} : RzA 0 m [] := ⟨by simp [PyData.showableAll], by simp [PyData.leavesShortAll], by simp [PyData.bulkAll], by simp [PyData.depthAll]⟩
theorem sza_nil {m : Nat} : SzA 0 m [] := ⟨rza_nil, by simp [ibAll]⟩
theorem rza_cons {n n' m : Nat} {d : PyData} {ds : List PyData} (a : Rz n m d) (b : RzA n' m ds) : RzA (n + 1 + n') m (d :: ds) :=
  ⟨by simp [PyData.showableAll, a.sh, b.sh], by simp [PyData.leavesShortAll, a.ls, b.ls], by have h1 := a.bk; have h2 := b.bk; simp only [PyData.bulkAll]; omega, by have h1 := a.dp; have h2 := b.dp; simp only [PyData.depthAll]; omega⟩
theorem sza_cons {n n' m : Nat} {d : PyData} {ds : List PyData} (a : Sz n m d) (b : SzA n' m ds) : SzA (n + 1 + n') m (d :: ds) := ⟨rza_cons a.toRz b.toRzA, by simp [ibAll, a.ib, b.ib]⟩
theorem RzA.mono {n m n' m' : Nat} {d : List PyData} (z : RzA n m d) (h1 : n ≤ n') (h2 : m ≤ m') : RzA n' m' d := ⟨z.sh, z.ls, Nat.le_trans z.bk h1, Nat.le_trans z.dp h2⟩
theorem SzA.mono {n m n' m' : Nat} {d : List PyData} (z : SzA n m d) (h1 : n ≤ n') (h2 : m ≤ m') : SzA n' m' d := ⟨z.toRzA.mono h1 h2, z.ib⟩
theorem sza_of {n m : Nat} : ∀ {ds : List PyData}, (∀ d ∈ ds, Sz n m d) → SzA ((n + 1) * ds.length) m ds
  | [], _ => sza_nil.mono (Nat.zero_le _) (Nat.le_refl _)
  | d :: ds, h => (sza_cons (h d List.mem_cons_self) (sza_of fun e he => h e (List.mem_cons_of_mem _ he))).mono (by rw [List.length_cons, Nat.mul_succ]; omega) (Nat.le_refl _)
theorem RzA.list {n m : Nat} {ds : List PyData} (a : RzA n m ds) : Rz n (m + 1) (.list ds) :=
  ⟨by simpa only [PyData.showable] using a.sh, by simpa only [PyData.leavesShort] using a.ls, by simpa only [PyData.bulk] using a.bk, by have := a.dp; simp only [PyData.depth]; omega⟩
theorem RzA.tuple {n m : Nat} {ds : List PyData} (a : RzA n m ds) : Rz n (m + 1) (.tuple ds) :=
  ⟨by simpa only [PyData.showable] using a.sh, by simpa only [PyData.leavesShort] using a.ls, by simpa only [PyData.bulk] using a.bk, by have := a.dp; simp only [PyData.depth]; omega⟩
theorem SzA.list {n m : Nat} {ds : List PyData} (a : SzA n m ds) : Sz n (m + 1) (.list ds) := ⟨a.toRzA.list, by unfold ibD; exact a.ib⟩
theorem SzA.tuple {n m : Nat} {ds : List PyData} (a : SzA n m ds) : Sz n (m + 1) (.tuple ds) := ⟨a.toRzA.tuple, by unfold ibD; exact a.ib⟩
theorem Rz.fits {d : PyData} (z : Rz 7000 50 d) : d.shown.length ≤ sizeLine := by
  have h := PyData.shown_le_bulk 2000 (by decide) d z.ls
  have b := z.bk
  have e : sizeLine = 16777216 := by decide
  omega
section
variable {X : Cx}
def rRepr : List V → Hp → VK → Prop := fun xs H Q => ∃ (v : V) (F : Addr → Prop) (d : PyData), xs = [v] ∧ Dd F H v d ∧ Rz 7000 50 d ∧ Q (.str d.shown) H
theorem cr_repr (hg : X.A.guards = some []) (hu : X.A.units + 64 < cLine) : CallR X (.builtin "repr") rRepr := by
  intro pins s σ H xs us Q I r h
  obtain ⟨v, F, d, rfl, hd, f, q⟩ := h
  obtain ⟨u, rfl, ru⟩ := Vals.one r
  refine call_repr_any (hd.rdd I ru) f.sh f.fits X.A _ s _ hg (by have := f.dp; omega) (fun _ _ e => e) fun h' t tk k => ?_
  exact ⟨.str d.shown, H, I.kept k, ⟨t, rfl⟩, q⟩
end
end Ey
/-! math.gcd of three -/
namespace Ey
open PySem PySem.Spec PyProof.Rows L2
open PySem.W in
theorem args_gcd3 (a b c : Value) : argsOk "math.gcd" ⟨[a, b, c], []⟩ := by unfold argsOk; kernel_rfl
open PySem.Calls in
theorem run_gcd3 (a b c : Int) (t u v : Tok) : Gives (Builtin.«math.gcd» ⟨[.int a t, .int b u, .int c v], []⟩) (.int ((((Nat.gcd 0 a.natAbs).gcd b.natAbs).gcd c.natAbs : Nat) : Int)) :=
  .of_wp fun M A E s Q h => by obtain ⟨hp, g, d, tk, os⟩ := s; wp_walk; exact ⟨_, rfl, h⟩
theorem vals_int3 {i j k : Int} {us : List Value} (r : Vals [V.int i, V.int j, V.int k] us) : ∃ t u v, us = [Value.int i t, Value.int j u, Value.int k v] := by
  cases r with
  | cons a r =>
    obtain ⟨t, rfl⟩ := a
    obtain ⟨u, v, rfl⟩ := Vals.int2 r
    exact ⟨t, u, v, rfl⟩
section
variable {X : Cx}
def rGcd3 : List V → Hp → VK → Prop := fun vs H Q => ∃ a b c : Int, vs = [.int a, .int b, .int c] ∧ Q (.int ((Nat.gcd (Nat.gcd a.natAbs b.natAbs) c.natAbs : Nat) : Int)) H
theorem cr_gcd3 : CallR X (.builtin "math.gcd") rGcd3 := by
  intro pins s σ H vs us Q I r h
  obtain ⟨a, b, c, rfl, q⟩ := h
  obtain ⟨t, u, v, rfl⟩ := vals_int3 r
  have g := run_gcd3 a b c t u v
  rw [Nat.gcd_zero_left] at g
  exact PySem.call_function_meets PySem.W.MGF.kind_gcd PySem.W.MGF.plain_gcd PySem.W.MGF.entry_gcd (args_gcd3 _ _ _) g.meets ⟨.int _, H, I.tok _, ⟨_, rfl⟩, q⟩
end
end Ey
/-! (0,) * k, k from 1 on -/
namespace Ey
open PySem PySem.Spec PyProof.Rows L2
theorem tuple_mul1 (l : Addr) (items : Array Value) (n : Nat) (dd : Option Addr) (sl : Array (Option Value)) (u : Tok) :
    Meets (Builtin.«tuple.__mul__» ⟨[.ref l, .int 1 u], []⟩) (fun _ R s => s.heap.get? l = some { cls := .type "tuple", dict := dd, data := .seq items n, slots := sl } ∧ R (.ok (.ret (Value.ref l))) s) :=
  .of_wp fun prog w A R s h => by
    obtain ⟨hp, g, d, tk, os⟩ := s
    obtain ⟨hl, h⟩ := h
    have f1 := AutoSeq1.idx_int
    wp_walk using wpAny_loadPart' hl
    exact ⟨_, rfl, h⟩
def rRepT1 (K : PySem.W.Frag) : R2 := fun x y H Q => ∃ l xs, x = .ref l ∧ y = .int 1 ∧ SqT K H l xs ∧ Q (.ref l) H
section
variable {X : Cx}
theorem op_repT1 : OpR X (binaryOp .Mult) (rRepT1 X.K) := by
  intro pins s σ H x y v u Q I rx ry h
  obtain ⟨l, xs, rfl, rfl, hT, q⟩ := h
  cases rx
  obtain ⟨t, rfl⟩ := ry
  obtain ⟨its, r, ⟨⟨cls, dd, data, sl⟩, ho, hc, n, hd⟩, hs⟩ := I.tuple hT
  simp only at hc hd
  subst hc hd
  exact wpAny_binaryOp_repeat_ref (T := "tuple") (U := "int") (by decide) ⟨_, ho, rfl⟩ (fun s' => typeIs_int s' 1 t) noFill_tuple_mul F.fills_int_mul F.slot_int_rmul repeat_tuple F.slot_int_index.lookup
    (call_meets F.slot_int_rmul (typeIs_int s 1 t) F.entry_int_rmul (F.args_int_rmul_2 _ _) (int_rmul_tuple 1 t l its.toArray n dd sl)
      ⟨ho, rfl, ⟨_, ho, rfl⟩, call_meets F.slot_tuple_mul ⟨_, ho, rfl⟩ F.entry_tuple_mul (F.args_tuple_mul_2 _ _) (tuple_mul1 l its.toArray n dd sl t) ⟨ho, ⟨.ref l, H, I, rfl, q⟩⟩⟩)
/-- (0,) * k -/
def rRep0 (K : PySem.W.Frag) : R2 := fun x y H Q => ∃ (l : Addr) (k : Nat), x = .ref l ∧ y = .int k ∧ H l = some (.tup [.int 0]) ∧ 1 ≤ k ∧ k ≤ 1000 ∧
  ∀ p H', (∀ a o, H a = some o → H' a = some o) → H' p = some (.tup ((List.replicate k (0 : Int)).map V.int)) → Q (.ref p) H'
theorem rep_flat (k : Nat) : (List.replicate k [V.int 0]).flatten = (List.replicate k (0 : Int)).map V.int := by
  induction k with
  | zero => rfl
  | succ k ih => rw [List.replicate_succ, List.replicate_succ, List.flatten_cons, ih] <;> rfl
theorem op_rep0 : OpR X (binaryOp .Mult) (rRep0 X.K) := by
  intro pins s σ H x y v u Q I rx ry h
  obtain ⟨l, k, rfl, rfl, hT, h1, h2, q⟩ := h
  by_cases hk : k = 1
  · subst hk
    exact op_repT1 pins s σ H _ _ v u Q I rx ry ⟨l, _, rfl, rfl, SqT.of hT, q l H (fun _ _ e => e) hT⟩
  · refine op_repT pins s σ H _ _ v u Q I rx ry ⟨l, k, _, rfl, rfl, SqT.of hT, (fun z => nomatch z), by omega, by omega, by decide, fun p np => ?_⟩
    refine q p _ (fun a o e => ?_) ?_
    · rw [upd_ne (ne_of_none e np)]
      exact e
    · rw [upd_same, Int.toNat_natCast, rep_flat]
end
end Ey
/-! t[::-1], t a tuple -/
namespace Ey
open PySem PySem.Spec PyProof.Rows L2
theorem rev_pick (xs : Array Value) : ((List.range xs.size).filterMap fun (k : Nat) => xs[(((xs.size : Nat) : Int) - 1 + (k : Int) * (-1)).toNat]?).toArray = xs.toList.reverse.toArray := by
  have e : ((List.range xs.size).filterMap fun (k : Nat) => xs[(((xs.size : Nat) : Int) - 1 + (k : Int) * (-1)).toNat]?) = ((List.range xs.size).map fun k => xs.size - 1 - k).filterMap (xs[·]?) := by
    rw [List.filterMap_map]
    have go : ∀ l : List Nat, (∀ k ∈ l, k < xs.size) → (l.filterMap fun (k : Nat) => xs[(((xs.size : Nat) : Int) - 1 + (k : Int) * (-1)).toNat]?) = l.filterMap ((xs[·]?) ∘ fun k => xs.size - 1 - k) := by
      intro l
      induction l with
      | nil => intro _; rfl
      | cons k l ih =>
        intro h
        have hk := h k List.mem_cons_self
        have e1 : (((xs.size : Nat) : Int) - 1 + (k : Int) * (-1)).toNat = xs.size - 1 - k := by omega
        rw [List.filterMap_cons, List.filterMap_cons, ih fun j hj => h j (List.mem_cons_of_mem _ hj)]
        rw [e1, Function.comp_apply]
    exact go _ fun k hk => List.mem_range.mp hk
  rw [e, PySem.W.krv_range, List.filterMap_reverse, PySem.W.krv_all]
theorem rev_places (n : Nat) : Builtin.Slice.slicePlaces ((n : Int) - 1) (-1) (-1) = n := by
  unfold Builtin.Slice.slicePlaces
  rw [if_neg (by decide)]
  split
  · rw [show (- -1 : Int) = 1 by decide, Int.ediv_one]
    omega
  · omega
section
variable {prog : Program} {w : World} {A : Around} {E : Value → Shared → Prop} {s : Shared}
theorem applied_rev {sl : Addr} {vl vu vs : Value} {n : Nat} {Q : Int × Int × Nat → Shared → Prop} (hs : ∃ o, s.heap.get? sl = some o ∧ o.cls = .type "slice" ∧ o.data = .fields #[vl, vu, vs]) (pl : IsPart vl none) (pu : IsPart vu none) (ps : IsPart vs (some (-1)))
    (h : Q ((n : Int) - 1, -1, n) s) : wpAny (model prog w) A (Builtin.Slice.sliceApplied (.ref sl) (pure (n : Int))) Q E s := by
  obtain ⟨os, hos, hcs, hds⟩ := hs
  unfold Builtin.Slice.sliceApplied Builtin.Slice.sliceFields
  refine wpAny_bind (wpAny_bind (wpAny_field hos hds (x := vl) rfl (wpAny_bind (wpAny_field hos hds (x := vu) rfl (wpAny_bind (wpAny_field hos hds (x := vs) rfl (wpAny_pure ?_)))))))
  refine wpAny_bind (HT.slicePart_ ps ?_)
  show wpAny _ _ (if ((-1 : Int) == 0) = true then _ else _) _ _ s
  rw [if_neg (by decide)]
  refine wpAny_bind (HT.slicePart_ pl (wpAny_bind (HT.slicePart_ pu (wpAny_bind (wpAny_pure ?_)))))
  show wpAny _ _ (match Builtin.Slice.sliceAdjust none none (-1) (n : Int) with | (lo, hi) => pure (lo, (-1 : Int), Builtin.Slice.slicePlaces lo hi (-1))) _ _ s
  show wpAny _ _ (pure ((n : Int) - 1, (-1 : Int), Builtin.Slice.slicePlaces ((n : Int) - 1) (-1) (-1))) _ _ s
  rw [rev_places]
  exact wpAny_pure h
theorem getItem_tuple_rev {t sl : Addr} {items : Array Value} {vl vu vs : Value} {Q : Value → Shared → Prop} (ht : IsTup s.heap t items) (hs : ∃ o, s.heap.get? sl = some o ∧ o.cls = .type "slice" ∧ o.data = .fields #[vl, vu, vs]) (pl : IsPart vl none) (pu : IsPart vu none) (ps : IsPart vs (some (-1)))
    (h : Q (.ref s.heap.objs.size) { s with heap := s.heap.push { cls := .type "tuple", data := .seq items.toList.reverse.toArray } }) (hsz : items.size ≤ sizeLine) : wpAny (model prog w) A (getItem (.ref t) (.ref sl)) Q E s := by
  have htake : sizeOk (.seq items.toList.reverse.toArray) := by
    show items.toList.reverse.toArray.size ≤ sizeLine
    rw [List.size_toArray, List.length_reverse, Array.length_toList]
    exact hsz
  obtain ⟨os, hos, hcs, hds⟩ := id hs
  have hTs : s.TypeIs (.ref sl) "slice" := ⟨os, hos, hcs⟩
  unfold getItem
  try with_reducible refine wpAny_holding ?_
  first | refine wpAny_bind (wpAny_pure ?_) | skip
  refine wpAny_bind (wpAny_sequenceKey ht.typeIs (by decide) ?_)
  refine wpAny_bind (wpAny_callSpecial?_slot (name := Str.ofString "__getitem__") ht.typeIs PyProof.Rows.slot_tuple_getitem
    (wpAny_call_entry PyProof.Rows.slot_tuple_getitem ht.typeIs PyProof.Rows.entry_tuple_getitem ?_ (PyProof.Rows.args_tuple_getitem _ _)))
  show wpAny _ _ (Builtin.Tuple.tupleItemsOf (.ref t) >>= _) _ _ s
  refine wpAny_bind (tupleItemsOf_ ht ?_)
  refine wpAny_bind (wpAny_typeOf hTs ?_)
  rw [if_pos (by decide)]
  refine wpAny_bind (applied_rev hs pl pu ps ?_)
  have hno : ¬ ((((items.size : Nat) : Int) - 1 == 0 && (-1 : Int) == 1 && items.size == items.size) = true) := by
    rw [show ((-1 : Int) == 1) = false by decide, Bool.and_false, Bool.false_and]
    exact Bool.false_ne_true
  show wpAny _ _ (if (((items.size : Nat) : Int) - 1 == 0 && (-1 : Int) == 1 && items.size == items.size) = true then _ else _) _ _ s
  rw [if_neg hno, rev_pick]
  exact wpAny_bind (m := Builtin.Tuple.tupleExact _) (wpAny_newObj_type (wpAny_pure ⟨_, rfl, wpAny_pure h⟩) htake)
end
section
variable {X : Cx}
def tRevT (K : PySem.W.Frag) (te : TE) : TE := fun σ H Q => te σ H fun x H1 => ∃ a xs, x = .ref a ∧ SqT K H1 a xs ∧ ∀ p, H1 p = none → Q (.ref p) (upd H1 p (.tup xs.reverse))
theorem pe_revT {e : Expr} {te : TE} {k : Nat} {p1 p2 p3 pos : Pos} (he : PE X e te) : PE X (.Subscript e (.Slice none none (some (.UnaryOp .USub (.Constant (.int 1) k p1) p2)) p3) pos) (tRevT X.K te) := by
  refine ⟨fun pins s σ H Q I h => ?_⟩
  refine Subscript_ (thn (he.run pins s σ H _ I h) fun v s1 ⟨x, H1, I1, r1, q1⟩ => ?_)
  obtain ⟨a, xs, ex, hx, q⟩ := q1
  subst ex
  cases r1
  have hst : PO X (some (.UnaryOp .USub (.Constant (.int 1) k p1) p2)) (tPart (tUn (rU fun i => .int (-i)) (tC (.int 1)))) := po_some (pe_un un_neg pe_int)
  refine wpAny_Slice (thn (po_none.run pins s1 σ H1 (fun o H2 => o = none ∧ H2 = H1) I1 ⟨rfl, rfl⟩) fun vl s2 ⟨l, H2, I2, pl, el, e2⟩ => ?_)
  subst el e2
  refine thn (po_none.run pins s2 σ H2 (fun o H3 => o = none ∧ H3 = H2) I2 ⟨rfl, rfl⟩) fun vu s3 ⟨u, H3, I3, pu, eu, e3⟩ => ?_
  subst eu e3
  refine thn (hst.run pins s3 σ H3 (fun o H4 => o = some (-1) ∧ H4 = H3) I3 ⟨1, rfl, -1, rfl, rfl, rfl⟩) fun vs s4 ⟨o, H4, I4, ps, eo, e4⟩ => ?_
  subst eo e4
  have I5 : Inv X pins σ H4 { s4 with heap := s4.heap.push { cls := .type "slice", data := .fields #[vl, vu, vs] } } := I4.kept (t' := s4.toks) fun b ob q => Heap.get?_push_of_some _ q
  obtain ⟨its, r, ht, hz⟩ := I5.tuple hx
  have hlen := r.length
  show wpAny (model X.prog X.w) X.A (subscriptTail e (.Slice none none (some (.UnaryOp .USub (.Constant (.int 1) k p1) p2)) p3) (.ref a) (.ref s4.heap.objs.size)) (EP X pins σ Q) X.xe { s4 with heap := s4.heap.push { cls := .type "slice", data := .fields #[vl, vu, vs] } }
  refine tail_any (ops := [.ref a, .ref s4.heap.objs.size]) ht.typeIs (PyProof.Rows.slot_tuple_getitem.lookup) ?_ (by with_unfolding_all rfl)
  refine getItem_tuple_rev ht ⟨_, Heap.get?_push_size _ rfl, rfl, rfl⟩ pl pu ps ?_ (by rw [List.size_toArray]; omega)
  refine ⟨.ref _, _, I5.laid (t' := s4.toks) (o := .tup xs.reverse) (fun b ob q => Heap.get?_push_of_some _ q) (Nat.le_refl _) ?_, rfl, q _ (I5.hok.fresh (Nat.le_refl _))⟩
  exact ⟨by rw [List.length_reverse]; exact hz, _, r.reverse, IsTup.new _ _⟩
end
end Ey
/-! the end of a row whose law asks what runs around it (repr does) -/
namespace Ey
open PySem PySem.Spec PyProof.Rows L2
/-- fn_of, where it is called from A alone -/
theorem fn_at {CX : CXT} {P : Program} {w : World} {K : PySem.W.Frag} {mg : Str → Option Value} {base : Heap} {A : Around} {k : Nat} {f : Addr} {x qual : Str} {st : Stmt} {fd : FuncData} {N ps : List Str} (F : Fun K x qual st f fd) (S : FnScope N ps (defScope st)) (hr : Room (k + 1) A)
    {outer : List Env} {s : Shared} {H : Hp} {args : Args} {us : List Value} {vs : List V} {Q : VK} {E : XK} (hl : vs.length = ps.length) (e0 : Env0 P w K mg base A outer s H) (hb : BindsTo s fd args (ps.zip us)) (r : Vals vs us)
    (body : ∀ cdv : Value, ∃ t, PSs (cxOf CX P w K mg base N qual (defScope st) f cdv A outer s H E).nox (defBody st) t ∧ t { nx := fun _ H' => Q .non H', rt := Q } (start N vs) H) : codeAny (model P w) A (.call (.ref f) args) (CR CX outer P w H s Q E) s := by
  obtain ⟨oc, od, kV, doc, pm, an, cdv, ct, osl, rfl, lk, hcd⟩ := F.ex
  have hK : K.In s.heap := e0.mod.kin.keeps fun b o e => (e0.bs b o e).1
  have hlim : s.heap.NoLimit := e0.mod.nolimit.keeps fun b o e => (e0.bs b o e).1
  have hpar : ∀ y ∈ ps.zip us, (defScope st).names.lookup y.1 = some .local ∨ ((defScope st).names.lookup y.1 = some .cell ∧ ((cellsFrom (s.heap.objs.size + 1) (defScope st).names []).lookup y.1).isSome = true) := by
    rintro ⟨n, v⟩ hy
    rcases S.par n (List.of_mem_zip hy).1 with q | q
    · exact Or.inl q
    · exact Or.inr ⟨q, PySem.W.cellsFrom_some _ _ _ (Or.inl q)⟩
  refine codeAny_call_function hr.depth (hK _ _ lk) rfl S.co S.gen rfl (PySem.W.codeRec_of hK hcd) (hb _ _ _ _ ?_)
  refine wpAny_newFunctionEnv_cells S.kind hpar fun env he s1 y => ?_
  subst he
  refine ⟨hlim.keeps y.toInCall.keep, codeAny_func ?_⟩
  obtain ⟨t, ht, hq⟩ := body cdv
  have I := inv_start (CX := CX) (E := E) S hr.hd e0 hl r y
  refine wpAny_mono (ht.nox.run [] s1 (start N vs) H _ I hq) (fun fl s' hs => ?_) fun e s' hs => hs
  have done : ∀ {σ' : L2.St} {H' : Hp} {v : V} {u : Value}, Inv (cxOf CX P w K mg base N qual (defScope st) f cdv A outer s H E) [] σ' H' s' → RelV v u → Q v H' → CE outer P w H s Q u s' :=
    fun {σ' H' v u} J rv q => ⟨v, H', J.os, J.bare, J.base, J.hok, rv, q⟩
  cases fl with
  | ret u =>
    obtain ⟨v, σ', H', J, rv, q⟩ := hs
    exact done J rv q
  | next =>
    obtain ⟨σ', H', J, q⟩ := hs
    exact done (v := V.non) (u := Value.none) J rfl q
  | brk =>
    obtain ⟨_, _, _, q⟩ := hs
    exact q.elim
  | cont =>
    obtain ⟨_, _, _, q⟩ := hs
    exact q.elim

/-- what is to be shown of law: called as the row calls it, it answers True -/
def LawOk (P : Program) (w : World) (K : PySem.W.Frag) (mg : Str → Option Value) (base : Heap) (fa : Addr) : Prop :=
  ∀ (s : Shared) (H : Hp) (a : Addr) (ns : List Int), Env0 P w K mg base callerA [] s H → SqL K H a (ns.map V.int) → ns.length ≤ 63 →
    codeAny (model P w) callerA (.call (.ref fa) ⟨[.ref a], []⟩) (CR CX0 [] P w H s (fun v _ => v = .bl true) E0) s
theorem law_go {P : Program} {w : World} {K : PySem.W.Frag} {mg mb : Str → Option Value} {fa a : Addr} {s₁ : Shared} {vs : List Value} {ns : List Int}
    (KX : K.In s₁.heap) (hns : s₁.heap.Ns mainGlobals mg) (hb : s₁.heap.Ns builtinsNs mb) (hbb : ∀ x : Str, x ≠ "__name__" → mb x = bootBuiltins x) (hlim : s₁.heap.NoLimit) (hg : s₁.gens = #[])
    (ha : s₁.heap.get? a = some { cls := .type "list", data := .seq vs.toArray }) (hi : IntsAre vs ns) (hl : ns.length ≤ 63)
    (F : ∀ base : Heap, K.In base → base.Ns mainGlobals mg → LawOk P w K mg base fa) :
    codeAny (model P w) callerA (.call (.ref fa) ⟨[.ref a], []⟩) (fun r s' => r = .ok (.ret (.bool true)) ∧ OldK s₁.heap s'.heap ∧ s'.os = s₁.os ∧ AllBare s'.gens) s₁ := by
  have rv := vals_ints hi
  have lenV := hi.length
  have hsz : ns.length ≤ sizeLine := Nat.le_trans hl (by decide)
  have core : ∀ H : Hp, Only H → SqL K H a (ns.map V.int) → HOk P w H s₁.heap → (∀ b, H b ≠ none → b = a) → (H a ≠ none → K.lookup a = none) →
      codeAny (model P w) callerA (.call (.ref fa) ⟨[.ref a], []⟩) (fun r s' => r = .ok (.ret (.bool true)) ∧ OldK s₁.heap s'.heap ∧ s'.os = s₁.os ∧ AllBare s'.gens) s₁ := by
    intro H only hS hok only_a hKa
    have out : ∀ {b : Addr} {o : Obj} {es : Array DictEntry} {ep : Nat}, s₁.heap.get? b = some o → o.data = .dict es ep → H b = none := by
      intro b o es ep e d
      cases q : H b with
      | none => rfl
      | some u =>
        obtain rfl : b = a := only_a b (by rw [q]; exact fun z => nomatch z)
        rw [ha] at e
        cases e
        have z : Data.seq vs.toArray _ = Data.dict es ep := d
        cases z
    have ns_of : ∀ {b : Addr} {m : Str → Option Value}, s₁.heap.Ns b m → (hidT s₁.heap H).Ns b m := fun {b m} ⟨o, es, ep, e, d, r⟩ => ⟨o, es, ep, hidT_get e (out e d), d, r⟩
    have kin : K.In (hidT s₁.heap H) := by
      intro b o e
      refine hidT_get (KX b o e) ?_
      cases q : H b with
      | none => rfl
      | some u =>
        obtain rfl : b = a := only_a b (by rw [q]; exact fun z => nomatch z)
        rw [hKa (by rw [q]; exact fun z => nomatch z)] at e
        cases e
    have md : Mod K mg (hidT s₁.heap H) := ⟨kin, ns_of hns, ⟨mb, ns_of hb, hbb⟩, by obtain ⟨mc, z1, z2⟩ := hlim; exact ⟨mc, ns_of z1, z2⟩⟩
    have e0 : Env0 P w K mg (hidT s₁.heap H) callerA [] s₁ H :=
      ⟨rfl, md, fun b o e => of_hidT e, Nat.le_of_eq (hidT_size _ _), trivial, fun b hm => absurd (show b ∈ ([] : List Addr) from hm) (by simp), hok, .of_eq hg⟩
    refine codeAny_mono (F _ kin (ns_of hns) s₁ H a ns e0 hS hl) fun r s' h => ?_
    cases r with
    | error e => exact (show False from h).elim
    | ok fl =>
      cases fl with
      | next => exact (show False from h).elim
      | brk => exact (show False from h).elim
      | cont => exact (show False from h).elim
      | ret u =>
        obtain ⟨v, H', os, bare, un, hok', r', q⟩ := h
        obtain rfl : v = .bl true := q
        obtain rfl : u = Value.bool true := r'
        refine ⟨rfl, OldK.of_keep fun b o e => ?_, os, bare⟩
        cases q : H b with
        | none => exact un.keep b o e q (fun z => absurd (show b ∈ ([] : List Addr) from z) (by simp)) (by simp)
        | some u =>
          rcases only b with z | ⟨ob, xs, z⟩
          · rw [q] at z
            cases z
          · obtain ⟨e1, _⟩ := hok b _ z
            obtain ⟨e2, _⟩ := hok' b _ (un.frzs b ob _ z)
            rw [e] at e1
            cases e1
            exact e2
  cases hk : K.lookup a with
  | some o =>
    have e := KX a o hk
    rw [ha] at e
    cases e
    exact core (fun _ => none) (fun _ => Or.inl rfl) (Or.inr ⟨_, vs.toArray, _, hk, rfl, rfl, rfl, by rw [List.size_toArray, lenV]; exact hsz, by simpa using rv⟩)
      (fun b u z => by cases (show (none : Option HO) = some u from z)) (fun b z => absurd rfl z) fun z => absurd rfl z
  | none =>
    have at_a : (fun b => if b = a then some (HO.frz { cls := .type "list", data := .seq vs.toArray } (.lst (ns.map V.int))) else none : Hp) a = some (.frz { cls := .type "list", data := .seq vs.toArray } (.lst (ns.map V.int))) := if_pos rfl
    refine core (fun b => if b = a then some (.frz { cls := .type "list", data := .seq vs.toArray } (.lst (ns.map V.int))) else none) (fun b => ?_) (Or.inl (Or.inr ⟨_, at_a⟩)) (fun b u z => ?_) (fun b z => ?_) fun _ => hk
    · by_cases hb : b = a
      · exact Or.inr ⟨_, _, if_pos hb⟩
      · exact Or.inl (if_neg hb)
    · by_cases hb : b = a
      · subst hb
        cases (if_pos rfl).symm.trans z
        exact ⟨ha, by rw [List.length_map]; exact hsz, vs, _, rv, ha⟩
      · cases (if_neg hb).symm.trans z
    · exact Decidable.byContradiction fun hb => z (if_neg hb)
/-- walk_of, by LawOk -/
theorem walk_at {l : PySem.W.OpenLaw} {q : Program} {loose : List Str} {XP : (Str → Option Value) → Heap → Prop} {YP : World → Heap → Prop} {d : DefRec} {K : Params → PySem.W.Frag}
    (hn : l.most = some 63) (hdf : d.params.defaults = []) (hY : ∀ (w : World) (h : Heap), YP w h → (K w.params).In h)
    (F : ∀ (w : World) (mg : Str → Option Value) (fa : Addr) (h : Heap), (K w.params).In h → h.Ns mainGlobals mg → mg d.name = some (.ref fa) → ∀ base : Heap, (K w.params).In base → base.Ns mainGlobals mg → LawOk l.prog w (K w.params) mg base fa) :
    PySem.W.WalkO q loose XP YP l.row.toRowW d [] (fun f vs => PySem.call f vs) := by
  refine Att.attach_call hn hdf fun w s₀ s₁ mg mb fa o pm cd doc a vs ns G Y ho hd hcd hmg hobj hints hlen hg => ?_
  have KX := hY w _ Y
  exact law_go KX G.T.g G.T.b G.T.builtins G.T.nolimit hg hobj hints hlen (F w mg fa _ KX G.T.g hmg)
end Ey
/-! errors of the program: super().__init__(text), then one field -/
namespace Ey
open PySem PySem.W PySem.Calls PyProof.Rows PySem.HandSPX Builtin Builtin.ObjectAttr
def erA (fld : Str) (p1 p2 : Pos) : Arguments :=
  { posonlyargs := [], args := [{ arg := "self", annotation := none, pos := p1 }, { arg := fld, annotation := none, pos := p2 }], vararg := none, kwonlyargs := [], kw_defaults := [], kwarg := none, defaults := [] }
def erB (msg fld : Str) (j : Nat) (q0 q1 q2 q3 q4 q5 q6 q7 q8 q9 : Pos) : List Stmt :=
  [.Expr (.Call (.Attribute (.Call (.Name "super" q0) [] [] q1) "__init__" q2) [.Constant (.str msg) j q3] [] q4) q5, .Assign [.Attribute (.Name "self" q6) fld q7] (.Name fld q8) q9]
def erS (fld : Str) : Scope :=
  { kind := .function, names := [(PySem.Str.ofString "self", .local), (fld, .local), (PySem.Str.ofString "__class__", .free), (PySem.Str.ofString "super", .globalImplicit)], isGenerator := false, isCoroutine := false, more := [] }
/-- what the written part says of the error's class at C, over the one at B -/
structure ErrTxt (P : Program) (K : Frag) (mg : Str → Option Value) (x fld : Str) (C B fI : Addr) : Prop where
  gC : mg x = some (.ref C)
  cls : ∃ nm q N bs sn sub ab col dd k0 k1 k2 k3 k5, K.lookup C = some (excClassObj nm q C N bs (.ref B :: ESX.exTail) true sn sub ab col dd k0 k1 k2 k3 k5 "Exception.__new__")
  su : alongIn K "__init__" (.ref B :: ESX.exTail) = some (some (.builtin "Exception.__init__"))
  sa : findIn K (.ref C) "__setattr__" = some (some (.builtin "object.__setattr__"))
  ga : findIn K (.ref C) "__getattribute__" = some (some (.builtin "BaseException.__getattribute__"))
  gg : findIn K (.ref C) "__getattr__" = some none
  noN : findIn K (.ref C) fld = some none
  iC : findIn K (.ref C) "__init__" = some (some (.ref fI))
  tC : typeIn K (.ref fI) = some (.type "function")
  kC : keepIn K (.ref C) = true
  exC : subIn K (.ref C) (.type "BaseException") = some true
  exE : subIn K (.ref C) (.type "Exception") = some true
  tyC : typeIn K (.ref C) = some (.type "type")
  hdC : hasDictIn K C = true
  fs : (("self" : Str) == fld) = false
  fsu : (("super" : Str) == fld) = false
  fcl : (("__class__" : Str) == fld) = false
  fdb : (fld == ("__debug__" : Str)) = false
  nsup : mg "super" = none
  top : (P.main.scope.names.lookup ("super" : Str)).isSome = false
  opq : nsIn K cStatics "thirdparty.any" = some none
  fn : ∃ (qual msg : Str) (j : Nat) (oc : Value) (od : Option Addr) (doc pm : Value) (an : Option Addr) (ct : Value) (osl : Array (Option Value)) (cda cc : Addr) (p1 p2 q0 q1 q2 q3 q4 q5 q6 q7 q8 q9 : Pos),
    K.lookup fI = some ⟨oc, od, .func (ksFn "__init__" qual (erA fld p1 p2) (erB msg fld j q0 q1 q2 q3 q4 q5 q6 q7 q8 q9) (erS fld) .none .none doc pm an (.ref cda) ct cc), osl⟩ ∧ codeIn K (.ref cda) qual = true ∧
    (∀ (s : Shared) (a b : Value), BindsTo s (ksFn "__init__" qual (erA fld p1 p2) (erB msg fld j q0 q1 q2 q3 q4 q5 q6 q7 q8 q9) (erS fld) .none .none doc pm an (.ref cda) ct cc) ⟨[a, b], []⟩ [("self", a), (fld, b)]) ∧
    (∃ cl cld csl, K.lookup cc = some ⟨cl, cld, .cell (some (.ref C)), csl⟩) ∧
    (∃ ccl cdd vs ccs file tf, K.lookup cda = some ⟨ccl, cdd, .fields vs, ccs⟩ ∧ vs[2]? = some (.str file tf) ∧ ((P.main.file : Str) == file) = true) ∧
    (∀ L : Addr, ∃ pl : Sem Bool, eval (.Call (.Attribute (.Call (.Name "super" q0) [] [] q1) "__init__" q2) [.Constant (.str msg) j q3] [] q4) (ksEnv qual (erS fld) L fI (.ref cda) cc) = (do
      let o ← attributeBase (.Call (.Name "super" q0) [] [] q1) "__init__" (ksEnv qual (erS fld) L fI (.ref cda) cc) (eval (.Call (.Name "super" q0) [] [] q1) (ksEnv qual (erS fld) L fI (.ref cda) cc))
      standAt q2.atName
      let (u, us) ← holding [o] (getMethod o "__init__" pl)
      callWith q4 u us (backTo q4 (starEach [.Constant (.str msg) j q3] (ksEnv qual (erS fld) L fI (.ref cda) cc))) []))
/-- what a made error leaves at x -/
structure ErrIni (h h' : Heap) (x C dx t1 : Addr) (fld : Str) (v : Value) : Prop where
  keep : ∀ b o, b ≠ x → h.get? b = some o → h'.get? b = some o
  obj : h'.get? x = some (excObj C t1 (some dx) .none)
  dbig : h.objs.size ≤ dx
  dne : dx ≠ x
  ns : h'.Ns1 dx (fun y => if y = fld then some v else none)
section
variable {prog : Program} {w : World} {A : Around} {E : Value → Shared → Prop} {R : Result → Shared → Prop} {s : Shared} {K : Frag} {mg : Str → Option Value} {xn fld : Str} {C B fI : Addr}
theorem er_set (T : ErrTxt prog K mg xn fld C B fI) {hp : Heap} {g : Array GenState} {d : Drawn} {t : Nat} {os : OsState} {x t1 : Addr} {v : Value} {Q : Unit → Shared → Prop} (X : K.In hp) (hx : hp.get? x = some (excObj C t1 none .none))
    (hq : ∀ h' tk dx, ErrIni hp h' x C dx t1 fld v → Q () ⟨h', g, d, tk, os⟩) : wpAny (model prog w) A (setAttr (.ref x) fld v) Q E ⟨hp, g, d, t, os⟩ := by
  obtain ⟨nm, q, N, bs, sn, sub, ab, col, dd, k0, k1, k2, k3, k5, hC⟩ := T.cls
  have hcl : clsIn K C = some { name := nm, bases := bs, mro := .ref C :: .ref B :: ESX.exTail, ns := N, qualname := q, hasDict := true, slotNames := sn, subclasses := sub, abstract := ab, collection := col, hasDel := false } := by unfold clsIn; rw [hC] <;> rfl
  have ov : excOver K C [.type "Exception", .type "BaseException", .type "object"] = true := by
    unfold excOver
    rw [hcl]
    simp [Option.any, excTail]
  have tk : takerIn K C fld = some none := by
    unfold takerIn
    rw [T.noN] <;> rfl
  have hxs : x ≠ hp.objs.size := Nat.ne_of_lt (Heap.lt_size hx)
  have I : ∀ t', InstAt (⟨hp, g, d, t', os⟩ : Shared).heap x (excObj C t1 none .none) C none := fun _ => ⟨hx, rfl, rfl, trivial⟩
  refine set_plain (od := none) X (I t) T.sa (osa_openX (s := ⟨hp, g, d, t + 1, os⟩) (od := none) PySem.F.store_Exception X (I (t + 1)) ov tk fun b => ?_)
  refine wpAny_bind (wpAny_pure (wpAny_bind (instanceDict_exc hx (looks_clsIn X hcl) rfl ?_)))
  show wpAny _ _ (storeInDict _ (.str fld t) fld v) _ _ _
  refine store_in_new ?_ fun h' tk' hn hs => ?_
  · exact ⟨_, #[], _, (Heap.get?_update_ne _ _ _ _ hxs.symm).trans (Heap.get?_push_at rfl rfl), rfl, fun e he => absurd he (by simp), fun _ => rfl⟩
  · have hx2 : (hp.push (dictOf [] 0)).get? x = some (excObj C t1 none .none) := Heap.get?_push_of_some _ hx
    refine hq h' tk' hp.objs.size ⟨fun b o hb ho => ?_, ?_, Nat.le_refl _, hxs.symm, hn⟩
    · exact (hs.2 b (Nat.ne_of_lt (Heap.lt_size ho))).trans ((Heap.get?_update_ne _ _ _ _ hb).trans (Heap.get?_push_of_some _ ho))
    · exact (hs.2 x hxs).trans (Heap.get?_update_self _ hx2 rfl)
theorem er_init (T : ErrTxt prog K mg xn fld C B fI) {x t0 : Addr} {v : Value} {mb : Str → Option Value} (X : K.In s.heap) (hlim : s.heap.NoLimit) (hg : s.heap.Ns mainGlobals mg) (hb : s.heap.Ns builtinsNs mb) (hbb : mb "super" = some (.type "super"))
    (hx : s.heap.get? x = some (excO C t0)) (hnx : K.lookup x = none) (hroom : A.depth < recursionLimit)
    (hq : ∀ h' tk dx t1, ErrIni s.heap h' x C dx t1 fld v → R (.ok (.ret .none)) { s with heap := h', toks := tk }) : codeAny (model prog w) A (.call (.ref fI) ⟨[.ref x, v], []⟩) R s := by
  obtain ⟨qual, msg, j, oc, od, doc, pm, an, ct, osl, cda, cc, p1, p2, q0, q1, q2, q3, q4, q5, q6, q7, q8, q9, ho, hcd, hbi, ⟨cl, cld, csl, hcell⟩, ⟨ccl, cdd, vs, ccs, file, tf, hcode, hvs, hfile⟩, hev⟩ := T.fn
  obtain ⟨nm, q, N, bs, sn, sub, ab, col, dd, k0, k1, k2, k3, k5, hC⟩ := T.cls
  have hcl : clsIn K C = some { name := nm, bases := bs, mro := .ref C :: .ref B :: ESX.exTail, ns := N, qualname := q, hasDict := true, slotNames := sn, subclasses := sub, abstract := ab, collection := col, hasDel := false } := by unfold clsIn; rw [hC] <;> rfl
  have hm1 : mroIn K C (.ref C) = some true := by
    unfold mroIn
    rw [hcl]
    simp
  have lf : (erS fld).names.lookup fld = some .local := by
    have e : (erS fld).names.lookup fld = match fld == ("self" : Str) with | true => some .local | false => some .local := by
      show List.lookup fld [(PySem.Str.ofString "self", NameKind.local), (fld, .local), (PySem.Str.ofString "__class__", .free), (PySem.Str.ofString "super", .globalImplicit)] = _
      simp [List.lookup] <;> rfl
    rw [e]
    split <;> rfl
  refine ks_codeAny_call_defAt (fd := ksFn "__init__" qual (erA fld p1 p2) (erB msg fld j q0 q1 q2 q3 q4 q5 q6 q7 q8 q9) (erS fld) .none .none doc pm an (.ref cda) ct cc) (body := erB msg fld j q0 q1 q2 q3 q4 q5 q6 q7 q8 q9) (binds := [("self", .ref x), (fld, v)])
    hroom (X _ _ ho) rfl hlim (codeRec_of X hcd) rfl (hbi _ _ _) (fun y hy => ?_) (fun y hy => ?_) (fun h1 hn1 hk1 => ?_)
  · rcases List.mem_cons.mp hy with rfl | hy
    · exact fun z => by cases z
    · rcases List.mem_cons.mp hy with rfl | hy
      · exact fun z => by cases z
      · rcases List.mem_cons.mp hy with rfl | hy
        · exact fun z => by cases z
        · rcases List.mem_cons.mp hy with rfl | hy
          · exact fun z => by cases z
          · cases hy
  · rcases List.mem_cons.mp hy with rfl | hy
    · rfl
    · rcases List.mem_cons.mp hy with rfl | hy
      · exact lf
      · cases hy
  · have X1 : K.In h1 := X.keeps hk1
    have hx1 := hk1 _ _ hx
    have hC1 : h1.get? C = some (excClassObj nm q C N bs (.ref B :: ESX.exTail) true sn sub ab col dd k0 k1 k2 k3 k5 "Exception.__new__") := X1 _ _ hC
    have bself : (fun y => List.lookup y (List.reverse [(("self" : Str), Value.ref x), (fld, v)])) "self" = some (Value.ref x) := by
      have e := T.fs
      simp [List.lookup, e]
    have bfld : (fun y => List.lookup y (List.reverse [(("self" : Str), Value.ref x), (fld, v)])) fld = some v := by
      simp [List.lookup]
    generalize hmN : (fun y => List.lookup y (List.reverse [(("self" : Str), Value.ref x), (fld, v)])) = mN at hn1 bself bfld
    have hgl : h1.Ns mainGlobals mg := hg.keeps hk1
    have hbl : h1.Ns builtinsNs mb := hb.keeps hk1
    show _root_.PySem.wpAt (model prog w) (A.deeper (ksEnv qual (erS fld) s.heap.objs.size fI (.ref cda) cc)) (.func (erB msg fld j q0 q1 q2 q3 q4 q5 q6 q7 q8 q9) (ksEnv qual (erS fld) s.heap.objs.size fI (.ref cda) cc)) (execs (erB msg fld j q0 q1 q2 q3 q4 q5 q6 q7 q8 q9) (ksEnv qual (erS fld) s.heap.objs.size fI (.ref cda) cc)) _ _ _
    obtain ⟨pl, hev⟩ := hev s.heap.objs.size
    have kS : (ksEnv qual (erS fld) s.heap.objs.size fI (.ref cda) cc).kindOf "super" = some .globalImplicit := by
      have e := T.fsu
      show List.lookup ("super" : Str) [(PySem.Str.ofString "self", NameKind.local), (fld, .local), (PySem.Str.ofString "__class__", .free), (PySem.Str.ofString "super", .globalImplicit)] = _
      rw [List.lookup_cons, List.lookup_cons, e]
      rfl
    have kC : (ksEnv qual (erS fld) s.heap.objs.size fI (.ref cda) cc).kindOf "__class__" = some .free := by
      have e := T.fcl
      show List.lookup ("__class__" : Str) [(PySem.Str.ofString "self", NameKind.local), (fld, .local), (PySem.Str.ofString "__class__", .free), (PySem.Str.ofString "super", .globalImplicit)] = _
      rw [List.lookup_cons, List.lookup_cons, e]
      rfl
    obtain ⟨hp, g, dr, tk, os⟩ := s
    refine ks_wpAt_execs_cons (ks_wpAt_Expr_any (ks_wpAt_MethodCall (pl := pl) ?_ hev))
    refine ks_wpAt_super_base (env := ksEnv qual (erS fld) hp.objs.size fI (.ref cda) cc) kS kC rfl rfl (X1 _ _ ho) rfl rfl rfl (X1 _ _ hcode) rfl hvs hfile T.top ?_
    refine ks_loadName_global rfl kS (loadGlobal_builtin (env := ksEnv qual (erS fld) hp.objs.size fI (.ref cda) cc) hgl T.nsup hbl hbb ⟨rfl, ?_⟩)
    refine wpAny_loadName_free rfl kC rfl ⟨_, X1 _ _ hcell, rfl⟩ ?_
    refine wpAny_loadName_local rfl (rfl : (ksEnv qual (erS fld) hp.objs.size fI (.ref cda) cc).kindOf "self" = some .local) hn1 bself ?_
    refine ks_wpAny_isType_cls hC1 rfl ⟨rfl, ?_⟩
    refine ks_wpAny_call_super hC1 rfl hx1 rfl (fun c e => by cases e) (looks_mroIn X1 hm1) (fun h2 e2 kk2 => ?_)
    have X2 : K.In h2 := X1.keeps kk2
    have hx2 := kk2 _ _ hx1
    have I2 : InstAt h2 x (excO C t0) C none := ⟨hx2, rfl, rfl, trivial⟩
    have hxC : x ≠ C := fun z => by
      rw [z] at hx1
      rw [hx1] at hC1
      cases hC1
    refine ESX.getMethod_super (l₀ := .ref C :: .ref B :: ESX.exTail) e2 (looks_opaque X2 T.opq) ?_ (ESX.drop_own C _) X2 T.su hxC rfl (I2.type.andThen (looks_subIn X2 T.exE)) ?_
    · exact (looks_clsIn X2 hcl).andThen .now
    refine ESX.callWith_bound (x := x) (spliced_more (wpAny_Constant_str (spliced_none ⟨Heap.get?_push_at rfl rfl, ?_⟩)))
    have k3 : ∀ b o, h2.get? b = some o → (h2.push (ESX.bw x)).get? b = some o := fun b o e => Heap.get?_push_of_some _ e
    refine ESX.call_bw (t0 := t0) (k3 _ _ (kk2 _ _ hC1)) (k3 _ _ hx2) (Heap.get?_push_at rfl rfl) (by show 1 ≤ sizeLine; rw [sizeLine_eq]; decide) fun h4 t1 k4 hx4 => ?_
    -- self.fld = fld
    have X3 : K.In (h2.push (ESX.bw x)) := X2.keeps k3
    have ne : ∀ {b : Addr} {o : Obj}, hp.get? b = some o → b ≠ x → h4.get? b = some o := fun {b o} e n => k4 b o n (k3 _ _ (kk2 _ _ (hk1 _ _ e)))
    have nL : hp.objs.size ≠ x := Nat.ne_of_gt (Heap.lt_size hx)
    have X4 : K.In h4 := fun b o e => ne (X b o e) fun z => by
      rw [z, hnx] at e
      cases e
    have hn4 : h4.Ns hp.objs.size mN := by
      obtain ⟨oL, es, ep, eL, rL⟩ := hn1
      exact ⟨oL, es, ep, k4 _ _ nL (k3 _ _ (kk2 _ _ eL)), rL⟩
    refine ks_wpAt_execs_cons (ks_wpAt_Assign_Attr ?_)
    refine wpAt_of_wpAny (ESX.ldL hn4 bfld ?_ rfl lf T.fdb)
    refine ESX.ldL hn4 bself ?_ rfl rfl
    refine er_set (xn := xn) (B := B) (fI := fI) T X4 hx4 fun h5 tk5 dx I5 => ?_
    refine wpAt_of_wpAny (wpAny_execs_nil ?_)
    have big : hp.objs.size ≤ dx := by
      obtain ⟨oL, es, ep, eL, rL⟩ := hn4
      exact Nat.le_trans (Nat.le_of_lt (Heap.lt_size eL)) I5.dbig
    exact hq h5 tk5 dx t1 ⟨fun b o n e => I5.keep b o n (ne e n), I5.obj, big, I5.dne, I5.ns⟩
/-- a made error -/
structure ErrMade (h h' : Heap) (e C d : Addr) (fld : Str) (v : Value) : Prop where
  keep : ∀ b o, h.get? b = some o → h'.get? b = some o
  new : h.objs.size ≤ e
  obj : ∃ oe vs, h'.get? e = some oe ∧ oe.cls = .ref C ∧ oe.dict = some d ∧ oe.data = .fields vs ∧ vs[1]? = some .none
  dbig : h.objs.size ≤ d
  dne : d ≠ e
  ns : h'.Ns1 d (fun y => if y = fld then some v else none)
theorem er_made (T : ErrTxt prog K mg xn fld C B fI) {v : Value} {mb : Str → Option Value} (X : K.In s.heap) (hlim : s.heap.NoLimit) (hg : s.heap.Ns mainGlobals mg) (hb : s.heap.Ns builtinsNs mb) (hbb : mb "super" = some (.type "super")) (hroom : A.depth + 1 < recursionLimit)
    (hq : ∀ h' tk e d, ErrMade s.heap h' e C d fld v → R (.ok (.ret (.ref e))) { s with heap := h', toks := tk }) :
    codeAny (model prog w) A (.call (.ref C) ⟨[v], []⟩) R s := by
  obtain ⟨nm, q, N, bs, sn, sub, ab, col, dd, k0, k1, k2, k3, k5, hC⟩ := T.cls
  obtain ⟨hp, g, dr, tk, os⟩ := s
  have k : ∀ b o, hp.get? b = some o → ((hp.push (kdv_tup [v])).push (excO C hp.objs.size)).get? b = some o := fun b o e => Heap.get?_push_of_some _ (Heap.get?_push_of_some _ e)
  have hget : ((hp.push (kdv_tup [v])).push (excO C hp.objs.size)).get? (hp.objs.size + 1) = some (excO C hp.objs.size) := by heap_get
  have hnx : K.lookup (hp.objs.size + 1) = none := by
    cases e : K.lookup (hp.objs.size + 1) with
    | none => rfl
    | some o =>
      have z : hp.get? (hp.objs.size + 1) = some o := X _ _ e
      exact absurd (Nat.lt_of_succ_lt (Heap.lt_size z)) (Nat.lt_irrefl _)
  refine call_own PySem.F.excBase_Exception (fun Y => by rw [List.contains_cons]; rfl) (X _ _ hC) (looks_findIn X T.iC) (fun self => bind_fn X self T.tC) (by show 1 ≤ sizeLine; rw [sizeLine_eq]; decide) ?_
  refine er_init (s := ⟨(hp.push (kdv_tup [v])).push (excO C hp.objs.size), g, dr, tk, os⟩) T (X.keeps k) (hlim.keeps k) (hg.keeps k) (hb.keeps k) hbb hget hnx ?_ fun h' tk' dx t1 I => ?_
  · show A.depth + 1 < recursionLimit
    exact hroom
  · have old : ∀ b o, hp.get? b = some o → h'.get? b = some o := fun b o e => I.keep b o (Nat.ne_of_lt (Nat.lt_succ_of_lt (Heap.lt_size e))) (k b o e)
    have z : hp.objs.size + 1 + 1 ≤ dx := by
      have q := I.dbig
      first
        | exact q
        | (rw [Heap.size_push, Heap.size_push] at q; exact q)
    exact ⟨rfl, hq h' tk' (hp.objs.size + 1) dx ⟨old, Nat.le_succ _, ⟨_, _, I.obj, rfl, rfl, rfl, rfl⟩, Nat.le_trans (Nat.le_trans (Nat.le_succ _) (Nat.le_succ _)) z, I.dne, I.ns⟩⟩
end
end Ey
namespace Ey
open PySem PySem.Spec PyProof.Rows L2
theorem relO_fld {fld : Str} {v : V} {v' : Value} (r : RelV v v') (f : Str) : RelO (List.lookup f [(fld, v)]) (if f = fld then some v' else none) := by
  by_cases hw : f = fld
  · subst hw
    rw [if_pos rfl]
    have q : List.lookup f [(f, v)] = some v := by simp [List.lookup]
    rw [q]
    exact r
  · rw [if_neg hw]
    have qw : (f == fld) = false := by simpa using hw
    have q2 : List.lookup f [(fld, v)] = none := by simp [List.lookup, qw]
    rw [q2]
    trivial
section
variable {X : Cx} {xn fld : Str} {C B fI : Addr}
/-- Error(e) -/
def tMkEr (C : Addr) (fld : Str) (ta : TA) : L2.St → Hp → XK → Prop := fun σ H Q => ta σ H fun vs H1 => ∃ v, vs = [v] ∧ ∀ d, H1 d = none → Q (.ref C) (some d) (upd H1 d (.xd [(fld, v)]))
theorem pmk_er {a : Expr} {ta : TA} {p pos : Pos} {k : Nat} (T : ErrTxt X.prog X.K X.mg xn fld C B fI) (hr : Room k X.A) (ha : PA X [a] ta) (hg : Gl X xn) (hdb : (xn == ("__debug__" : Str)) = false := by decide)
    (he : starEach (a :: []) X.env = (false, eval a X.env) :: starEach [] X.env := by rfl) (hpl : (backTo pos (starEach [] X.env)).any (·.1) = false := by rfl) :
    PMk X (.Call (.Name xn p) [a] [] pos) (tMkEr C fld ta) := by
  intro pins s σ H Q I h
  refine wpAny_Call_Name_kw (ld_glob I hg T.gC ?_ hdb)
  refine PySem.W.callWith_K (h₀ := X.base) I.ok.mod.kin T.kC (thn (ha.run pos pins s σ H _ I h) fun us s1 hh => ?_) he hpl
  obtain ⟨vs, H1, I1, r1, v, ev, q1⟩ := hh
  subst ev
  refine ⟨I1.kIn, ?_⟩
  cases r1 with
  | cons rv rn =>
    rename_i v' us'
    cases rn
    show wpAny _ _ (call (.ref C) [v']) _ _ _
    have hlim := I1.nolimit
    obtain ⟨mb, b1, b2⟩ := I1.mod.blt
    have gG := I1.mod.glob.keeps I1.bk
    have gB := b1.keeps I1.bk
    have gS : mb "super" = some (.type "super") := (b2 "super" (by decide)).trans (by first | rfl | kernel_rfl)
    obtain ⟨hp, g, dr, tk, os⟩ := s1
    refine wpAny_call (er_made T I1.kIn hlim gG gB gS (by have := hr.dp; omega) fun h' tk' e d M => ?_)
    show MkP X pins σ Q (.ref e) ⟨h', g, dr, tk', os⟩
    obtain ⟨oe, fv, hoe, hc, hd, hdat, h1⟩ := M.obj
    have hns := M.ns
    obtain ⟨G', g1, g2⟩ := restrict h' fun b => decide (b ≠ e)
    have gk : ∀ b, b ≠ e → G'.get? b = h'.get? b := fun b hb => g1 b (decide_eq_true hb)
    have ge : G'.get? e = none := g2 e (by simp)
    have old : ∀ b o, hp.get? b = some o → G'.get? b = some o := fun b o q => (gk b (Nat.ne_of_lt (Nat.lt_of_lt_of_le (Heap.lt_size q) M.new))).trans (M.keep b o q)
    have ob : ObjOk X.prog X.w (upd H1 d (.xd [(fld, v)])) G' d (.xd [(fld, v)]) :=
      ⟨_, hns.at (fun o q => (gk d M.dne).trans q), fun f => relO_fld rv f⟩
    have J : Inv X pins σ (upd H1 d (.xd [(fld, v)])) ⟨G', g, dr, tk', os⟩ := I1.laid (t' := tk') old M.dbig ob
    refine ⟨e, oe, fv, ⟨G', g, dr, tk', os⟩, _, .ref C, some d, rfl, J, fun b o q => ?_, ge, hoe, ⟨hc, hd⟩, hdat, h1, ?_, rfl, I1.bare, raises_own T.exC T.tyC, q1 d (I1.hok.fresh M.dbig)⟩
    · by_cases hb : b = e
      · have q' : G'.get? b = some o := q
        rw [hb, ge] at q'; cases q'
      · exact (gk b hb).symm.trans q
    · rw [upd_ne (Ne.symm M.dne)]
      exact I1.hok.fresh M.new
/-- raise Error(e) -/
def tRaiseEr (C : Addr) (fld : Str) (W : WX) (ta : TA) : TS := fun _ σ H => tMkEr C fld ta σ H fun cls d H' => W cls d σ H'
theorem ps_raiseEr {a : Expr} {ta : TA} {W : WX} {p pos pos2 : Pos} {k : Nat} (hc : X.calm = true) (T : ErrTxt X.prog X.K X.mg xn fld C B fI) (hr : Room k X.A) (tk : Takes X W) (ha : PA X [a] ta) (hg : Gl X xn) (hdb : (xn == ("__debug__" : Str)) = false := by decide)
    (he : starEach (a :: []) X.env = (false, eval a X.env) :: starEach [] X.env := by rfl) (hpl : (backTo pos (starEach [] X.env)).any (·.1) = false := by rfl) :
    PS X (.Raise (some (.Call (.Name xn p) [a] [] pos)) none pos2) (tRaiseEr C fld W ta) := ps_raise hc tk (pmk_er T hr ha hg hdb he hpl)
/-- e.fld, e the error that the suite holds (at a; its class cls, its dict d) -/
def tByEr (C : Addr) (fld : Str) (a : Addr) (cls : Value) (d : Option Addr) (te : TE) : TE := fun σ H Q => te σ H fun x H1 => x = .ref a ∧ cls = .ref C ∧ ∃ (dd : Addr) (v : V), d = some dd ∧ H1 dd = some (.xd [(fld, v)]) ∧ Q v H1
/-- the error stands there, with its dict -/
theorem er_inst {a dd : Addr} {v : V} {oe : Obj} {pn pins : List (Addr × Obj)} {σ : L2.St} {H : Hp} {s : Shared} (I : L2.Inv (X.suite a ((a, oe) :: pn)) pins σ H s) (hz : Zc (.ref C) (some dd) oe) (hf : ∃ vs, oe.data = .fields vs) (ea : H dd = some (.xd [(fld, v)])) :
    ∃ (od : Obj) (u : Value), PySem.W.InstAt s.heap a oe C (some od) ∧ PySem.W.lookIn fld od = some (some u) ∧ RelV v u := by
  obtain ⟨ha, _⟩ := I.pin (a, oe) (List.mem_append_left _ List.mem_cons_self)
  obtain ⟨vs, hd⟩ := hf
  have hx : ObjOk X.prog X.w H s.heap dd (.xd [(fld, v)]) := I.hok dd _ ea
  obtain ⟨mA, hns, hr⟩ := hx
  obtain ⟨od, ho, hl⟩ := lookIn_ns hns
  have l : List.lookup fld [(fld, v)] = some v := by simp [List.lookup]
  obtain ⟨u, hu, ru⟩ := RelO.some_of (v := v) (o := mA fld) (by rw [← l]; exact hr fld)
  exact ⟨od, u, ⟨ha, hz.1, by unfold PySem.W.notCls; rw [hd] <;> rfl, by rw [hz.2]; exact ho⟩, by rw [hl, hu], ru⟩
theorem pe_byEr {a : Addr} {oe : Obj} {cls : Value} {d : Option Addr} {pn : List (Addr × Obj)} {e : Expr} {te : TE} {pos : Pos} (T : ErrTxt X.prog X.K X.mg xn fld C B fI) (hz : Zc cls d oe) (hf : ∃ vs, oe.data = .fields vs) (he : PE (X.suite a ((a, oe) :: pn)) e te)
    (hb : attributeBase e fld X.env (eval e X.env) = eval e X.env := by rfl) :
    PE (X.suite a ((a, oe) :: pn)) (.Attribute e fld pos) (tByEr C fld a cls d te) := by
  refine ⟨fun pins s σ H Q I h => ?_⟩
  refine attr_of hb (thn (he.run pins s σ H _ I h) fun u s1 hh => ?_)
  obtain ⟨x, H1, I1, rx, ex, ec, dd, v, ed, ea, q⟩ := hh
  subst ex
  obtain rfl : u = Value.ref a := rx
  subst ec
  subst ed
  obtain ⟨od, u, J, hl, ru⟩ := er_inst I1 hz hf ea
  exact HandSPX.exc_get I1.kIn J T.ga T.gg T.exC (PySem.W.findObj_own T.hdC T.noN rfl hl) (handed_of ru) ⟨v, H1, I1.tok _, ru, q⟩
/-- isinstance(e, D), e the error that the suite holds -/
def rIsEr (K : PySem.W.Frag) (C a : Addr) (fld : Str) (cls : Value) (d : Option Addr) : List V → Hp → VK → Prop := fun xs H Q => ∃ (c : V) (cv : Value) (b : Bool) (dd : Addr) (v : V), xs = [.ref a, c] ∧ cls = .ref C ∧ d = some dd ∧ H dd = some (.xd [(fld, v)]) ∧ (∀ u, RelV c u → u = cv) ∧ PySem.W.kitOne K (.ref C) cv = some b ∧ Q (.bl b) H
theorem call_isEr {a : Addr} {oe : Obj} {cls : Value} {d : Option Addr} {pn : List (Addr × Obj)} (D : ExcC X.K C) (hz : Zc cls d oe) (hf : ∃ vs, oe.data = .fields vs) : CallR (X.suite a ((a, oe) :: pn)) (.builtin "isinstance") (rIsEr X.K C a fld cls d) := by
  intro pins s σ H xs us Q I r h
  obtain ⟨c, cv, b, dd, v, rfl, rfl, rfl, ea, hcv, e, q⟩ := h
  cases r with
  | cons rx rr =>
    cases rr with
    | cons rt rr =>
      cases rr
      cases rx
      have ec := hcv _ rt
      subst ec
      obtain ⟨od, u, J, _, _⟩ := er_inst I hz hf ea
      obtain ⟨cd, hcd, _⟩ := PySem.W.any_some D.hd
      exact PySem.W.kia_one (PySem.W.kitx_exc (by rw [hcd] <;> rfl) D.hg D.hk D.hs D.ha D.hn D.ht D.hm) I.kIn J e (fun z => nomatch z) fun tk => ⟨.bl b, H, I.kept (t' := tk) fun _ _ z => z, rfl, q⟩
end
end Ey
namespace Ey
open PySem PySem.Spec PyProof.Rows L2
/-! ### the text -/
def topS (i : Nat) : Stmt := PySem.Challenge.pw_eyeorder_k04_where_lines_meet.main.body.getD i (.Pass ⟨0, 0, 0, 0⟩)
abbrev sDeck : Stmt := topS 20
abbrev sDraw : Stmt := topS 21
abbrev sPick : Stmt := topS 22
theorem scDeck : FnScope ["script", "seed", "mixed", "cell"] ["script", "seed"] (defScope sDeck) := ⟨rfl, rfl, rfl, by decide +kernel, rfl, by decide +kernel, by decide +kernel⟩
theorem scDraw : FnScope ["deck", "many", "cell", "figure"] ["deck", "many"] (defScope sDraw) := ⟨rfl, rfl, rfl, by decide +kernel, rfl, by decide +kernel, by decide +kernel⟩
theorem scPick : FnScope ["deck", "some"] ["deck", "some"] (defScope sPick) := ⟨rfl, rfl, rfl, by decide +kernel, rfl, by decide +kernel, by decide +kernel⟩

/-! ### the deck -/
abbrev dkv (l : Addr) (m k : Int) : List (Key × V) := [(.inr ("left" : Str), .ref l), (.inr ("mixed" : Str), .int m), (.inr ("draws" : Str), .int k)]
theorem nLM : ¬ (Sum.inr ("left" : Str) : Key) = Sum.inr ("mixed" : Str) := by decide +kernel
theorem nLD : ¬ (Sum.inr ("left" : Str) : Key) = Sum.inr ("draws" : Str) := by decide +kernel
theorem nMD : ¬ (Sum.inr ("mixed" : Str) : Key) = Sum.inr ("draws" : Str) := by decide +kernel
theorem dkv_left {l : Addr} {m k : Int} : valV (dkv l m k) (.inr ("left" : Str)) = some (.ref l) := valV_pos rfl
theorem dkv_mixed {l : Addr} {m k : Int} : valV (dkv l m k) (.inr ("mixed" : Str)) = some (.int m) := (valV_neg nLM).trans (valV_pos rfl)
theorem dkv_draws {l : Addr} {m k : Int} : valV (dkv l m k) (.inr ("draws" : Str)) = some (.int k) := (valV_neg nLD).trans ((valV_neg nMD).trans (valV_pos rfl))
theorem dkv_putM {l : Addr} {m k n : Int} : putK (dkv l m k) (.inr ("mixed" : Str)) (.int n) = dkv l n k := by
  unfold putK
  have e1 := nLM
  have e3 : ¬ (Sum.inr ("draws" : Str) : Key) = Sum.inr ("mixed" : Str) := fun z => nMD z.symm
  simp only [dkv, List.any_cons, List.map_cons, List.map_nil, if_neg e1, if_neg e3, if_pos]
  simp
theorem dkv_putD {l : Addr} {m k n : Int} : putK (dkv l m k) (.inr ("draws" : Str)) (.int n) = dkv l m n := by
  unfold putK
  have e1 := nLD
  have e3 := nMD
  simp only [dkv, List.any_cons, List.map_cons, List.map_nil, if_neg e1, if_neg e3, if_pos]
  simp
/-- the deck stands at d, its list at l -/
structure Deck (d l : Addr) (H : Hp) : Prop where
  ex : ∃ (ns : List Int) (m k : Int), ns.length ≤ 63 ∧ H d = some (.dK (dkv l m k)) ∧ H l = some (.lst (ns.map V.int))
/-- all but the deck is as it was -/
def Kp (d l : Addr) (H H' : Hp) : Prop := ∀ a o, H a = some o → a ≠ d → a ≠ l → H' a = some o
theorem Kp.refl {d l : Addr} (H : Hp) : Kp d l H H := fun _ _ e _ _ => e
theorem Kp.trans {d l : Addr} {H H1 H2 : Hp} (a : Kp d l H H1) (b : Kp d l H1 H2) : Kp d l H H2 := fun x o e n1 n2 => b x o (a x o e n1 n2) n1 n2
theorem Kp.of {d l : Addr} {H H1 : Hp} (a : Evl.Ex H H1) : Kp d l H H1 := fun x o e _ _ => a x o e
theorem Kp.new {d l : Addr} {H H1 : Hp} {p : Addr} {o : HO} (a : Kp d l H H1) (n : H1 p = none) : Kp d l H (upd H1 p o) := fun x u e n1 n2 => by
  rw [upd_ne (ne_of_none (a x u e n1 n2) n)]
  exact a x u e n1 n2
theorem Kp.d {d l : Addr} {H H1 : Hp} {o : HO} (a : Kp d l H H1) : Kp d l H (upd H1 d o) := fun x u e n1 n2 => by
  rw [upd_ne n1]
  exact a x u e n1 n2
theorem Kp.l {d l : Addr} {H H1 : Hp} {o : HO} (a : Kp d l H H1) : Kp d l H (upd H1 l o) := fun x u e n1 n2 => by
  rw [upd_ne n2]
  exact a x u e n1 n2
theorem Deck.new {d l : Addr} {H : Hp} {p : Addr} {o : HO} (D : Deck d l H) (n : H p = none) : Deck d l (upd H p o) := by
  obtain ⟨ns, m, k, h, e1, e2⟩ := D.ex
  exact ⟨ns, m, k, h, by rw [upd_ne (ne_of_none e1 n)]; exact e1, by rw [upd_ne (ne_of_none e2 n)]; exact e2⟩
theorem Deck.ex' {d l : Addr} {H H1 : Hp} (D : Deck d l H) (a : Evl.Ex H H1) : Deck d l H1 := by
  obtain ⟨ns, m, k, h, e1, e2⟩ := D.ex
  exact ⟨ns, m, k, h, a _ _ e1, a _ _ e2⟩

theorem g_left {d l : Addr} {m k : Int} {H : Hp} (e : H d = some (.dK (dkv l m k))) : DGet H d (.str ("left" : Str)) (some (.ref l)) := by
  have g := DGet.k (k := Sum.inr ("left" : Str)) e
  rw [dkv_left] at g
  exact g
theorem g_mixed {d l : Addr} {m k : Int} {H : Hp} (e : H d = some (.dK (dkv l m k))) : DGet H d (.str ("mixed" : Str)) (some (.int m)) := by
  have g := DGet.k (k := Sum.inr ("mixed" : Str)) e
  rw [dkv_mixed] at g
  exact g
theorem g_draws {d l : Addr} {m k : Int} {H : Hp} (e : H d = some (.dK (dkv l m k))) : DGet H d (.str ("draws" : Str)) (some (.int k)) := by
  have g := DGet.k (k := Sum.inr ("draws" : Str)) e
  rw [dkv_draws] at g
  exact g
theorem p_mixed {d l : Addr} {m k n : Int} {H : Hp} (e : H d = some (.dK (dkv l m k))) : DPut H d (.str ("mixed" : Str)) (.int n) (upd H d (.dK (dkv l n k))) := by
  have g := DPut.k (k := Sum.inr ("mixed" : Str)) (v := .int n) e (by show 3 < sizeLine; decide)
  rw [dkv_putM] at g
  exact g
theorem p_draws {d l : Addr} {m k n : Int} {H : Hp} (e : H d = some (.dK (dkv l m k))) : DPut H d (.str ("draws" : Str)) (.int n) (upd H d (.dK (dkv l m n))) := by
  have g := DPut.k (k := Sum.inr ("draws" : Str)) (v := .int n) e (by show 3 < sizeLine; decide)
  rw [dkv_putD] at g
  exact g
/-! ### lists of ints as data -/
theorem dp_ints {K : PySem.W.Frag} {H : Hp} : ∀ ns : List Int, DpAll K H (ns.map V.int) (ns.map PyData.int)
  | [] => .nil
  | n :: r => .cons (.int n) (dp_ints r)
theorem lay_ints : ∀ ns : List Int, PyData.canLayAll0 (ns.map PyData.int) = true
  | [] => by simp [PyData.canLayAll0]
  | n :: r => by simp [PyData.canLayAll0, PyData.canLay0, lay_ints r]
theorem dep_ints : ∀ ns : List Int, PyData.depthAll (ns.map PyData.int) = 0
  | [] => by simp [PyData.depthAll]
  | n :: r => by simp [PyData.depthAll, PyData.depth, dep_ints r]
theorem shaped_ints (ns : List Int) : SeqAt.shaped (.list (ns.map PyData.int)) = true := by
  unfold SeqAt.shaped
  simp [PyData.canLay0, PyData.depth, lay_ints, dep_ints]
theorem dv {j : Int} (h : (0 : Int) < j) : (0 : Int) < j := h
theorem lt18 {j : Int} (h : j ≤ 1000000) : j < 10 ^ 18 := Int.lt_of_le_of_lt h (by decide)
theorem nil_or_last : ∀ ns : List Int, ns = [] ∨ ∃ r x, ns = r ++ [x]
  | [] => .inl rfl
  | n :: r => by
    rcases nil_or_last r with e | ⟨q, x, e⟩
    · exact .inr ⟨[], n, by rw [e]; rfl⟩
    · exact .inr ⟨n :: q, x, by rw [e]; rfl⟩
theorem eqv_nil (ns : List Int) : PyData.eqv (.list (ns.map PyData.int)) (.list []) = ns.isEmpty := by
  cases ns <;> simp [PyData.eqv, PyData.eqvAll]
section
variable {P : Program} {w : World} {K : PySem.W.Frag} {mg : Str → Option Value} {base : Heap}
/-- what the top's names say of the language's own -/
structure Blt (mg : Str → Option Value) : Prop where
  int : mg "int" = none
  max : mg "max" = none
  len : mg "len" = none
  list : mg "list" = none
  range : mg "range" = none
  tuple : mg "tuple" = none
  isinst : mg "isinstance" = none
  bool : mg "bool" = none
  abs : mg "abs" = none
  repr : mg "repr" = none
  str : mg "str" = none
  all : mg "all" = none

def spDraw : Sp := fun vs H Q _ => ∃ (d l : Addr) (many : Int), vs = [.ref d, .int many] ∧ 0 < many ∧ many < 10 ^ 18 ∧ Deck d l H ∧ ∀ r H', 0 ≤ r → r < many → Deck d l H' → Kp d l H H' → Q (.int r) H'
theorem ok_draw {f : Addr} {fd : FuncData} {k : Nat} (F : Fun K "_law_draw" "_law_draw" sDraw f fd) (T : Blt mg) : FnOk P w K mg base CX0 (k + 1) f fd ["deck", "many"] spDraw := by
  refine F.ok scDraw (fun vs H Q E h => ?_) (fun cdv A outer s H vs Q E hr h => ?_)
  · obtain ⟨d, l, m, rfl, _⟩ := h
    rfl
  · obtain ⟨d, l, many, rfl, h0, h1, D, q⟩ := h
    have hu := hu_of hr
    have gt {e : Expr} {i : Nat} {tb tc : TE} : True := trivial
    refine ⟨_, pss_cons (ps_dput hu (pv 0) pe_str (pe_op op_add (pe_dget hu (pv 0) pe_str (fun _ _ => rfl)) pe_int) rfl)
      (Evl.pss_cut (ps_if (pt_cmpR (op_neD hr.units) (pe_dget hu (pv 0) pe_str (fun _ _ => rfl)) (pe_lst pa_nil) (nomark _))
        (pss_cons (ps_set (i := 2) scDraw.nd rfl (.inl rfl) (pe_bm0 PySem.F.plainAttrs_list PySem.F.slot_list_pop PySem.F.type_list_pop mt_pop (pe_dget hu (pv 0) pe_str (fun _ _ => rfl))))
        (pss_cons (ps_if (pt_cmpR op_ge (pv 2) (pe_op op_pow pe_int pe_int) (nomark _))
          (pss_cons (ps_expr (pe_bm PySem.F.plainAttrs_list PySem.F.slot_list_append PySem.F.type_list_append mt_append (pe_dget hu (pv 0) pe_str (fun _ _ => rfl))
            (pa_cons (pe_op op_fdivW (pv 2) (pe_callB (call_max2 rfl) (by rfl) T.max (by decide +kernel) (pa_cons pe_int (pa_cons (pv 1) pa_nil)))) pa_nil)))
          (pss_one (ps_ret (pe_op op_mod (pe_callTy call_int1 (by rfl) T.int (by decide +kernel) (pa_cons (pv 2) pa_nil)) (pv 1)))))
          pss_nil)
        (pss_one (ps_dput hu (pv 0) pe_str (pe_op op_mod (pe_callTy call_int1 (by rfl) T.int (by decide +kernel) (pa_cons
          (pe_op op_add (pe_op op_add (pe_op op_mul (pe_dget hu (pv 0) pe_str (fun _ _ => rfl)) pe_int) (pe_op op_mod (pe_callTy call_int1 (by rfl) T.int (by decide +kernel) (pa_cons (pv 2) pa_nil)) pe_int)) pe_int) pa_nil)) pe_int) rfl))))
        pss_nil)
      (pss_cons (ps_set (i := 3) scDraw.nd rfl (.inl rfl) (pe_op op_mod (pe_callTy call_int1 (by rfl) T.int (by decide +kernel) (pa_cons
          (pe_op op_add (pe_dget hu (pv 0) pe_str (fun _ _ => rfl)) (pe_op op_mul pe_int (pe_dget hu (pv 0) pe_str (fun _ _ => rfl)))) pa_nil)) pe_int))
      (pss_cons (ps_set (i := 3) scDraw.nd rfl (.inl rfl) (pe_op op_mod (pe_callTy call_int1 (by rfl) T.int (by decide +kernel) (pa_cons
          (pe_op op_add (pe_op op_add (pe_op op_mul (pv 3) (pv 3)) (pe_op op_mul pe_int (pe_dget hu (pv 0) pe_str (fun _ _ => rfl)))) pe_int) pa_nil)) pe_int))
      (pss_cons (ps_set (i := 3) scDraw.nd rfl (.inl rfl) (pe_op op_mod (pe_callTy call_int1 (by rfl) T.int (by decide +kernel) (pa_cons
          (pe_op op_add (pe_op op_mul (pv 3) pe_int) pe_int) pa_nil)) pe_int))
      (pss_one (ps_ret (pe_op op_mod (pe_callTy call_int1 (by rfl) T.int (by decide +kernel) (pa_cons (pe_op op_fdiv (pv 3) pe_int) pa_nil)) (pv 1)))))))), ?_⟩
    obtain ⟨ns, m, k, hl, e1, e2⟩ := D.ex
    have nld : l ≠ d := ne_of e2 e1 (by intro z; cases z)
    -- deck['draws'] = ..
    refine ⟨.ref d, rfl, d, .int k, rfl, g_draws e1, k, 1, rfl, rfl, .ref d, rfl, d, _, rfl, p_draws e1, ?_⟩
    have a1 : Kp d l H (upd H d (.dK (dkv l m (k + 1)))) := (Kp.refl H).d
    have b1 : (upd H d (.dK (dkv l m (k + 1)))) d = some (.dK (dkv l m (k + 1))) := upd_same
    have b2 : (upd H d (.dK (dkv l m (k + 1)))) l = some (.lst (ns.map V.int)) := by rw [upd_ne nld]; exact e2
    generalize upd H d (.dK (dkv l m (k + 1))) = H1 at a1 b1 b2
    refine ⟨fun σ' H' => ∃ c, σ' = [some (.ref d), some (.int many), c, none] ∧ Deck d l H' ∧ Kp d l H H', ?_, ?_⟩
    · -- if deck['left'] != []
      refine ⟨.ref d, rfl, d, .ref l, rfl, g_left b1, Nat.zero_le _, fun p np => ⟨_, _, Dp.lst (SqL.of (by rw [upd_ne (ne_of_none b2 np)]; exact b2)) (dp_ints ns), Dp.lst (SqL.of upd_same) .nil, shaped_ints ns, shaped_ints [], _, rfl, ?_⟩⟩
      have a2 := a1.new (o := .lst []) np
      have c1 : (upd H1 p (.lst [])) d = some (.dK (dkv l m (k + 1))) := by rw [upd_ne (ne_of_none b1 np)]; exact b1
      have c2 : (upd H1 p (.lst [])) l = some (.lst (ns.map V.int)) := by rw [upd_ne (ne_of_none b2 np)]; exact b2
      generalize upd H1 p (.lst []) = H2 at a2 c1 c2
      rw [eqv_nil]
      rcases nil_or_last ns with rfl | ⟨r, x, rfl⟩
      · exact iteF ⟨none, rfl, ⟨[], m, k + 1, hl, c1, c2⟩, a2⟩
      have hr1 : r.length ≤ 62 := by
        rw [List.length_append] at hl
        exact Nat.le_of_succ_le_succ hl
      rw [show (!(r ++ [x]).isEmpty) = true by cases r <;> rfl]
      refine iteT ?_
      -- cell = deck['left'].pop()
      have em : (r ++ [x]).map V.int = r.map V.int ++ [.int x] := by rw [List.map_append] <;> rfl
      rw [em] at c2
      refine ⟨.ref d, rfl, d, .ref l, rfl, g_left c1, .inl ⟨rfl, _, SqL.of c2⟩, l, _, .int x, rfl, rfl, c2, ?_, ?_⟩
      · rw [List.length_append, List.length_singleton, Nat.add_sub_cancel, List.getElem?_append_right (Nat.le_refl _), Nat.sub_self] <;> rfl
      rw [List.dropLast_concat]
      have a3 := a2.l (o := .lst (r.map V.int))
      have d1 : (upd H2 l (.lst (r.map V.int))) d = some (.dK (dkv l m (k + 1))) := by rw [upd_ne nld.symm]; exact c1
      have d2 : (upd H2 l (.lst (r.map V.int))) l = some (.lst (r.map V.int)) := upd_same
      generalize upd H2 l (.lst (r.map V.int)) = H3 at a3 d1 d2
      -- if cell >= 10 ** 18
      refine ⟨.int x, rfl, 10, 18, rfl, rfl, ⟨by decide, by decide, by decide⟩, x, _, rfl, rfl, _, rfl, ite2 (fun hx => ?_) (fun hx => ?_)⟩
      · have hmx : (0 : Int) < (if many > 2 then many else 2) := by split <;> omega
        have hmb : (if many > 2 then many else 2 : Int).natAbs < 2 ^ 60 := by
          have : (10 : Int) ^ 18 = 1000000000000000000 := by decide
          split <;> omega
        refine ⟨.ref d, rfl, d, .ref l, rfl, g_left d1, .inl ⟨rfl, _, SqL.of d2⟩, .int x, rfl, .int many, rfl, 2, many, rfl, x, _, rfl, rfl, wide_div hmx hmb (by decide) (by decide), l, _, _, rfl, rfl, d2, ?_, ?_⟩
        · rw [List.length_map]
          exact small1000 (by omega)
        · refine ⟨.int x, rfl, .inl ⟨x, rfl, .int many, rfl, x, many, rfl, rfl, h0, ?_⟩⟩
          refine q _ _ (Int.emod_nonneg _ (by omega)) (Int.emod_lt_of_pos _ h0) ⟨r ++ [x / (if many > 2 then many else 2)], m, k + 1, ?_, ?_, ?_⟩ a3.l
          · rw [List.length_append]
            exact Nat.succ_le_succ hr1
          · rw [upd_ne nld.symm]
            exact d1
          · rw [upd_same, List.map_append] <;> rfl
      · -- deck['mixed'] = ..
        refine ⟨.ref d, rfl, d, .int m, rfl, g_mixed d1, m, 39373, rfl, rfl, .inr (by decide), .int x, rfl, .inl ⟨x, rfl, x, 2147483629, rfl, rfl, dv (by decide), _, _, rfl, rfl, _, _, rfl, rfl, .inl ⟨_, rfl, _, _, rfl, rfl, dv (by decide), .ref d, rfl, d, _, rfl, p_mixed d1, ?_⟩⟩⟩
        exact ⟨_, rfl, ⟨r, _, k + 1, by omega, upd_same, by rw [upd_ne nld]; exact d2⟩, a3.d⟩
    · rintro σ' H' ⟨c, rfl, D2, a2⟩
      obtain ⟨ns2, m2, k2, hl2, c1, c2⟩ := D2.ex
      -- the figures
      refine ⟨.ref d, rfl, d, .int m2, rfl, g_mixed c1, .ref d, rfl, d, .int k2, rfl, g_draws c1, _, _, rfl, rfl, .inl (by decide), _, _, rfl, rfl, .inl ⟨_, rfl, _, _, rfl, rfl, dv (by decide), ?_⟩⟩
      refine ⟨_, rfl, _, rfl, _, _, rfl, rfl, .inl ⟨by show -(2 ^ 64 : Int) < (m2 + 31337 * k2) % 2147483647; omega, by show (m2 + 31337 * k2) % 2147483647 < (2 ^ 64 : Int); omega⟩, .ref d, rfl, d, .int k2, rfl, g_draws c1, _, _, rfl, rfl, .inl (by decide), _, _, rfl, rfl, _, _, rfl, rfl, .inl ⟨_, rfl, _, _, rfl, rfl, dv (by decide), ?_⟩⟩
      refine ⟨_, rfl, _, _, rfl, rfl, .inr (by decide), _, _, rfl, rfl, .inl ⟨_, rfl, _, _, rfl, rfl, dv (by decide), ?_⟩⟩
      refine ⟨_, rfl, _, _, rfl, rfl, ⟨by decide, by decide⟩, .inl ⟨_, rfl, .int many, rfl, _, many, rfl, rfl, h0, ?_⟩⟩
      exact q _ _ (Int.emod_nonneg _ (by omega)) (Int.emod_lt_of_pos _ h0) ⟨ns2, m2, k2, hl2, c1, c2⟩ a2

/-- a def of the text, called by its name: its promise at a level -/
structure Fk (P : Program) (w : World) (K : PySem.W.Frag) (mg : Str → Option Value) (base : Heap) (CX : CXT) (k : Nat) (x : Str) (ps : List Str) (sp : Sp) : Prop where
  ex : ∃ (f : Addr) (fd : FuncData), FnOk P w K mg base CX k f fd ps sp ∧ Binds K fd ps [] ∧ mg x = some (.ref f) ∧ PySem.W.keepIn K (.ref f) = true ∧ ∃ oc od osl, K.lookup f = some ⟨oc, od, .func fd, osl⟩
theorem fun_lk {x qual : Str} {st : Stmt} {f : Addr} {fd : FuncData} (F : Fun K x qual st f fd) : ∃ oc od osl, K.lookup f = some ⟨oc, od, .func fd, osl⟩ := by
  obtain ⟨oc, od, kV, doc, pm, an, cdv, ct, osl, e, lk, _⟩ := F.ex
  exact ⟨oc, od, osl, lk⟩
/-- where a def stands -/
structure At (K : PySem.W.Frag) (mg : Str → Option Value) (x : Str) (st : Stmt) : Prop where
  ex : ∃ (f : Addr) (fd : FuncData), Fun K x x st f fd ∧ mg x = some (.ref f)
theorem Fk.mono {CX : CXT} {j k : Nat} {x : Str} {ps : List Str} {sp : Sp} (F : Fk P w K mg base CX j x ps sp) (h : j ≤ k) : Fk P w K mg base CX k x ps sp := by
  obtain ⟨f, fd, a, b, c, d⟩ := F.ex
  exact ⟨f, fd, a.mono h, b, c, d⟩
theorem Fk.weak {CX : CXT} {k : Nat} {x : Str} {ps : List Str} {sp sp' : Sp} (F : Fk P w K mg base CX k x ps sp) (h : ∀ vs H Q E, sp' vs H Q E → sp vs H Q E) : Fk P w K mg base CX k x ps sp' := by
  obtain ⟨f, fd, a, b, c, d⟩ := F.ex
  exact ⟨f, fd, ⟨fun vs H Q E z => a.len vs H Q E (h vs H Q E z), fun A outer s H args us vs Q E r e b v z => a.run A outer s H args us vs Q E r e b v (h vs H Q E z)⟩, b, c, d⟩
theorem pe_cl {X : Cx} {CX : CXT} {k : Nat} {x : Str} {ps : List Str} {sp : Sp} {E : XK} {p pos : Pos} {e : Expr} {es : List Expr} {t : TA} (G : Fk X.prog X.w X.K X.mg X.base CX k x ps sp) (hr : Room k X.A) (hg : Gl X x) (hx : Passes CX X E) (ha : PA X (e :: es) t)
    (hdb : (x == ("__debug__" : Str)) = false := by decide) (he : starEach (e :: es) X.env = (false, eval e X.env) :: starEach es X.env := by rfl) (hpl : (backTo pos (starEach es X.env)).any (·.1) = false := by rfl) :
    PE X (.Call (.Name x p) (e :: es) [] pos) (tCall sp [] E t) := by
  obtain ⟨f, fd, a, b, c, d⟩ := G.ex
  exact pe_call a hr hg c d.1 b .nil hx ha hdb he hpl
/-- how x(k = v, ..) binds: keywords ks alone, in the order that o tells -/
def KwOf (K : PySem.W.Frag) (x : Str) (st : Stmt) (ps ks : List Str) (o : List Nat) : Prop :=
  ∀ (f : Addr) (fd : FuncData), Fun K x x st f fd → ∀ (s : Shared) (ws : List Value), K.In s.heap → ws.length = ks.length → BindsTo s fd ⟨[], ks.zip ws⟩ (ps.zip (o.map fun i => ws.getD i .none))
theorem vals_perm {zs : List V} {ws : List Value} (r : Vals zs ws) : ∀ o : List Nat, (∀ i ∈ o, i < zs.length) → Vals (o.map fun i => zs.getD i .non) (o.map fun i => ws.getD i .none)
  | [], _ => .nil
  | i :: o, h => by
    have hi := h i List.mem_cons_self
    obtain ⟨u, hu, ru⟩ := r.get (List.getElem?_eq_getElem hi)
    refine .cons ?_ (vals_perm r o fun j hj => h j (List.mem_cons_of_mem _ hj))
    show RelV (zs.getD i .non) (ws.getD i .none)
    rw [List.getD_eq_getElem?_getD, List.getD_eq_getElem?_getD, hu, List.getElem?_eq_getElem hi]
    exact ru
def tCallKw (n : Nat) (o : List Nat) (sp : Sp) (E : XK) (tk : TA) : TE := fun σ H Q => tk σ H fun zs H1 => zs.length = n ∧ sp (o.map fun i => zs.getD i .non) H1 Q E
theorem pe_clk {X : Cx} {CX : CXT} {k : Nat} {x : Str} {st : Stmt} {ps ks : List Str} {o : List Nat} {sp : Sp} {E : XK} {p pos : Pos} {kws : List Keyword} {tk : TA} (G : Fk X.prog X.w X.K X.mg X.base CX k x ps sp) (S : At X.K X.mg x st) (B : KwOf X.K x st ps ks o) (ho : ∀ i ∈ o, i < ks.length)
    (hr : Room k X.A) (hg : Gl X x) (hx : Passes CX X E) (hkw : PK X kws tk)
    (hall : (backToKw pos (keywordEach kws X.env)).all (·.1.isSome) = true := by rfl) (hks : (backToKw pos (keywordEach kws X.env)).filterMap (·.1) = ks := by rfl) (hdb : (x == ("__debug__" : Str)) = false := by decide)
    (hpl : ((backTo pos (starEach [] X.env)).any (·.1) || (backToKw pos (keywordEach kws X.env)).any (·.1.isNone)) = false := by rfl) :
    PE X (.Call (.Name x p) [] kws pos) (tCallKw ks.length o sp E tk) := by
  obtain ⟨f, fd, a, _, c, d, oc, od, osl, lk⟩ := G.ex
  obtain ⟨f2, fd2, F2, c2⟩ := S.ex
  rw [c] at c2
  cases c2
  obtain ⟨oc2, od2, osl2, lk2⟩ := fun_lk F2
  rw [lk] at lk2
  cases lk2
  refine ⟨fun pins s σ H Q I h => ?_⟩
  refine wpAny_Call_Name_kw (ld_glob I hg c ?_ hdb)
  refine PySem.W.callWith_KW0 (h₀ := X.base) I.ok.mod.kin d hall ?_ hpl
  refine thn (hkw.run pos pins s σ H _ I h) fun ws s2 ⟨zs, H2, I2, rz, hl, q2⟩ => ⟨I2.kIn, ?_⟩
  rw [hks]
  have hl2 : ws.length = ks.length := rz.length.symm.trans hl
  have r2 := vals_perm rz o fun i hi => by rw [hl]; exact ho i hi
  refine wpAny_call (codeAny_mono (a.run X.A X.stack s2 H2 ⟨[], ks.zip ws⟩ _ _ Q E hr I2.env0 (B f fd F2 s2 ws I2.kIn hl2) r2 q2) fun r s' hq => ?_)
  cases r with
  | error e => exact hx pins σ H2 s2 e s' I2 hq
  | ok fl =>
    cases fl with
    | ret u => exact I2.after hq
    | next => exact False.elim hq
    | brk => exact False.elim hq
    | cont => exact False.elim hq
theorem fk_draw (S : At K mg "_law_draw" sDraw) (T : Blt mg) : Fk P w K mg base CX0 1 "_law_draw" ["deck", "many"] spDraw := by
  obtain ⟨f, fd, F, g⟩ := S.ex
  exact ⟨f, fd, ok_draw F T, F.binds fun _ _ _ _ _ _ us hl => (match us, hl with | [_, _], _ => rfl), g, F.kp, fun_lk F⟩

/-! ### one of a list -/
def spPick : Sp := fun vs H Q _ => ∃ (d l a : Addr) (xs : List V), vs = [.ref d, .ref a] ∧ Deck d l H ∧ H a = some (.lst xs) ∧ a ≠ d ∧ a ≠ l ∧ 0 < xs.length ∧ xs.length ≤ 1000 ∧
  ∀ (i : Nat) (v : V) (H' : Hp), xs[i]? = some v → Deck d l H' → Kp d l H H' → Q v H'
theorem fk_pick (S : At K mg "_law_pick" sPick) (T : Blt mg) (G : Fk P w K mg base CX0 1 "_law_draw" ["deck", "many"] spDraw) : Fk P w K mg base CX0 2 "_law_pick" ["deck", "some"] spPick := by
  obtain ⟨f, fd, F, g⟩ := S.ex
  refine ⟨f, fd, F.ok scPick (fun vs H Q E h => ?_) (fun cdv A outer s H vs Q E hr h => ?_), F.binds fun _ _ _ _ _ _ us hl => (match us, hl with | [_, _], _ => rfl), g, F.kp, fun_lk F⟩
  · obtain ⟨d, l, a, xs, rfl, _⟩ := h
    rfl
  · obtain ⟨d, l, a, xs, rfl, D, ea, nd, nl, h0, h1, q⟩ := h
    refine ⟨_, pss_one (ps_ret (pe_ix ix_list (pv 1) (pe_cl G hr (by rfl) pass0 (pa_cons (pv 0) (pa_cons (pe_callB call_len_seq (by rfl) T.len PySem.boot_len (pa_cons (pv 1) pa_nil)) pa_nil))) (fun _ _ => rfl))), ?_⟩
    refine ⟨_, rfl, _, rfl, _, rfl, a, xs, rfl, .inl (SqL.of ea), d, l, _, rfl, by omega, lt18 (by omega), D, fun r H' r0 r1 D' k => ?_⟩
    have hr : r.toNat < xs.length := by omega
    refine ⟨a, xs, r, xs[r.toNat], rfl, rfl, SqL.of (k _ _ ea nd nl), at_of (j := r.toNat) (by omega) (List.getElem?_eq_getElem hr), q _ _ H' (List.getElem?_eq_getElem hr) D' k⟩

/-! ### the deck is made -/
theorem cut_ints (ns : List Int) (lo hi : Option Int) : ∃ ms : List Int, cutV (ns.map V.int) lo hi = ms.map V.int ∧ ms.length ≤ ns.length := by
  refine ⟨(ns.drop (HT.sIx ns.length 0 lo)).take (HT.sIx ns.length ns.length hi - HT.sIx ns.length 0 lo), ?_, ?_⟩
  · unfold cutV
    rw [List.length_map, List.map_take, List.map_drop]
  · rw [List.length_take, List.length_drop]
    omega
def spDeck (K : PySem.W.Frag) : Sp := fun vs H Q _ => ∃ (a : Addr) (ns : List Int) (seed : Int), vs = [.ref a, .int seed] ∧ SqL K H a (ns.map V.int) ∧ ns.length ≤ 63 ∧
  ∀ d l H', Deck d l H' → Evl.Ex H H' → H d = none → H l = none → Q (.ref d) H'
theorem merge_deck {l : Addr} {m k : Int} : mergeK [] (dkv l m k) = dkv l m k := by
  have n1 : valV [((Sum.inr ("left" : Str) : Key), V.ref l)] (.inr ("mixed" : Str)) = none := (valV_neg nLM).trans valV_nil
  have n2 : valV [((Sum.inr ("left" : Str) : Key), V.ref l), (.inr ("mixed" : Str), .int m)] (.inr ("draws" : Str)) = none := (valV_neg nLD).trans ((valV_neg nMD).trans valV_nil)
  show putK (putK (putK [] (Sum.inr ("left" : Str) : Key) (V.ref l)) (Sum.inr ("mixed" : Str)) (V.int m)) (Sum.inr ("draws" : Str)) (V.int k) = _
  rw [show putK ([] : List (Key × V)) (Sum.inr ("left" : Str)) (V.ref l) = [((Sum.inr ("left" : Str) : Key), V.ref l)] from rfl, putK_new _ n1]
  show putK [((Sum.inr ("left" : Str) : Key), V.ref l), ((Sum.inr ("mixed" : Str) : Key), V.int m)] (Sum.inr ("draws" : Str)) (V.int k) = _
  rw [putK_new _ n2] <;> rfl
theorem fk_deck (S : At K mg "_law_deck" sDeck) (T : Blt mg) : Fk P w K mg base CX0 1 "_law_deck" ["script", "seed"] (spDeck K) := by
  obtain ⟨f, fd, F, g⟩ := S.ex
  refine ⟨f, fd, F.ok scDeck (fun vs H Q E h => ?_) (fun cdv A outer s H vs Q E hr h => ?_), F.binds fun _ _ _ _ _ _ us hl => (match us, hl with | [_, _], _ => rfl), g, F.kp, fun_lk F⟩
  · obtain ⟨a, ns, m, rfl, _⟩ := h
    rfl
  · obtain ⟨a, ns, m, rfl, ea, h1, q⟩ := h
    refine ⟨_, pss_cons (ps_set (i := 2) scDeck.nd rfl (.inl rfl) (pv 1))
      (pss_cons (ps_for PassesOwn.never rfl (pi_list (pe_slice sl_list (pv 0) po_none (po_some pe_int))) (pg_name (i := 3) scDeck.nd rfl (.inl rfl))
        (pss_one (ps_set (i := 2) scDeck.nd rfl (.inl rfl) (pe_op op_mod (pe_callTy call_int1 (by rfl) T.int (by decide +kernel) (pa_cons
          (pe_op op_add (pe_op op_add (pe_op op_mul (pv 2) pe_int) (pe_op op_mod (pe_callTy call_int1 (by rfl) T.int (by decide +kernel) (pa_cons (pv 3) pa_nil)) pe_int)) pe_int) pa_nil)) pe_int))))
      (pss_one (ps_ret (pe_disp (pps_cons pe_str (pe_revL (pe_callTy call_list_of (by rfl) T.list (by decide +kernel) (pa_cons (pe_slice sl_list (pv 0) po_none (po_some pe_int)) pa_nil)))
        (pps_cons pe_str (pv 2) (pps_cons pe_str pe_int pps_nil))) (by rfl) (by rfl) (fun z => by cases z) (by decide))))), ?_⟩
    refine ⟨_, rfl, ?_⟩
    -- for cell in script[:63]
    obtain ⟨ms, em, hm⟩ := cut_ints ns none (some 63)
    refine ⟨_, rfl, 63, rfl, a, _, rfl, ea, fun p np => ?_⟩
    rw [em]
    have x1 : Evl.Ex H (upd H p (.lst (ms.map V.int))) := Evl.Ex.new np
    have b1 : (upd H p (.lst (ms.map V.int))) p = some (.lst (ms.map V.int)) := upd_same
    generalize upd H p (.lst (ms.map V.int)) = H1 at x1 b1
    refine ⟨p, rfl, ⟨_, SqL.of b1⟩, for_list (xs := ms.map V.int) (fun _ σ H' => H' = H1 ∧ ∃ (z : Int) (c : Option V), σ = [some (.ref a), some (.int m), some (.int z), c]) ⟨rfl, m, none, rfl⟩ (fun i σ H' _ h => ?_) (fun i x σ H' hx h => ?_) (fun σ H' h => ?_)⟩
    · obtain ⟨rfl, _⟩ := h
      exact SqL.of b1
    · obtain ⟨rfl, z, c, rfl⟩ := h
      obtain ⟨y, hy, rfl⟩ : ∃ y, ms[i]? = some y ∧ x = .int y := by
        rw [List.getElem?_map] at hx
        cases e : ms[i]? with
        | none => rw [e] at hx; cases hx
        | some y => rw [e] at hx; cases hx; exact ⟨y, rfl, rfl⟩
      refine ⟨_, rfl, _, _, rfl, rfl, .inr (by decide), _, rfl, .inl ⟨_, rfl, _, _, rfl, rfl, dv (by decide), _, _, rfl, rfl, _, _, rfl, rfl, .inl ⟨_, rfl, _, _, rfl, rfl, dv (by decide), ?_⟩⟩⟩
      exact ⟨rfl, _, _, rfl⟩
    · obtain ⟨rfl, z, c, rfl⟩ := h
      -- the dict
      refine fun t nt => ?_
      have x2 : Evl.Ex H (upd H' t (.dK [])) := x1.trans (Evl.Ex.new nt)
      have b2 : (upd H' t (.dK [])) t = some (.dK []) := upd_same
      have nH : H t = none := Evl.fresh_back x1 nt
      generalize upd H' t (.dK []) = H2 at x2 b2
      refine ⟨_, rfl, 63, rfl, a, _, rfl, Evl.ex_l x2 ea, fun p2 np2 => ?_⟩
      rw [em]
      have x3 : Evl.Ex H (upd H2 p2 (.lst (ms.map V.int))) := x2.trans (Evl.Ex.new np2)
      have b3 : (upd H2 p2 (.lst (ms.map V.int))) t = some (.dK []) := by rw [upd_ne (ne_of_none b2 np2)]; exact b2
      have b4 : (upd H2 p2 (.lst (ms.map V.int))) p2 = some (.lst (ms.map V.int)) := upd_same
      generalize upd H2 p2 (.lst (ms.map V.int)) = H3 at x3 b3 b4
      refine ⟨p2, _, rfl, .inl (SqL.of b4), fun p3 np3 => ?_⟩
      have x4 : Evl.Ex H (upd H3 p3 (.lst (ms.map V.int))) := x3.trans (Evl.Ex.new np3)
      have b5 : (upd H3 p3 (.lst (ms.map V.int))) t = some (.dK []) := by rw [upd_ne (ne_of_none b3 np3)]; exact b3
      have b6 : (upd H3 p3 (.lst (ms.map V.int))) p3 = some (.lst (ms.map V.int)) := upd_same
      generalize upd H3 p3 (.lst (ms.map V.int)) = H4 at x4 b5 b6
      refine ⟨p3, _, rfl, SqL.of b6, fun p4 np4 => ?_⟩
      rw [← List.map_reverse]
      have x5 : Evl.Ex H (upd H4 p4 (.lst (ms.reverse.map V.int))) := x4.trans (Evl.Ex.new np4)
      have b7 : (upd H4 p4 (.lst (ms.reverse.map V.int))) t = some (.dK []) := by rw [upd_ne (ne_of_none b5 np4)]; exact b5
      have b8 : (upd H4 p4 (.lst (ms.reverse.map V.int))) p4 = some (.lst (ms.reverse.map V.int)) := upd_same
      have nH4 : H p4 = none := Evl.fresh_back x4 np4
      generalize upd H4 p4 (.lst (ms.reverse.map V.int)) = H5 at x5 b7 b8
      refine ⟨_, rfl, b7, dkv p4 z 0, rfl, by show 3 ≤ 15; decide, ?_⟩
      rw [merge_deck]
      exact q t p4 _ ⟨ms.reverse, z, 0, by rw [List.length_reverse]; omega, upd_same, by rw [upd_ne (ne_of b8 b7 (by intro z; cases z))]; exact b8⟩ (x5.mut nH) nH nH4
end
end Ey
namespace Ey
open PySem PySem.Spec PyProof.Rows L2
/-! ### any value -/
abbrev sAny : Stmt := topS 24
theorem scAny : FnScope ["deck", "deep", "way", "some", "turn"] ["deck", "deep"] (defScope sAny) := ⟨rfl, rfl, rfl, by decide +kernel, rfl, by decide +kernel, by decide +kernel⟩
/-- a written leaf -/
def Leaf (v : V) : Prop := ∃ e, (∀ F H, Dd F H v e) ∧ Sz 7 1 e
theorem leaf_int {i : Int} (h : i.natAbs < 2 ^ 250) : Leaf (.int i) := ⟨.int i, fun _ _ => .int i, (sz_int h).mono (by decide) (by decide)⟩
theorem leaf_str {x : Str} (h : (x.cps.toList.all fun c => decide (c < 16 ^ 8)) = true) (hn : x.cps.size ≤ 7) : Leaf (.str x) := ⟨.str x, fun _ _ => .str x, (sz_str h hn).mono (by decide) (by decide)⟩
theorem leaf_non : Leaf .non := ⟨.none, fun _ _ => .non, sz_none.mono (by decide) (by decide)⟩
theorem leaf_bl (b : Bool) : Leaf (.bl b) := ⟨.bool b, fun _ _ => .bl b, (sz_bool b).mono (by decide) (by decide)⟩
theorem all_nil {p : V → Prop} : ∀ v ∈ ([] : List V), p v := fun _ h => nomatch h
theorem all_cons {p : V → Prop} {v : V} {vs : List V} (a : p v) (b : ∀ v ∈ vs, p v) : ∀ u ∈ v :: vs, p u := fun u h => by
  rcases List.mem_cons.mp h with rfl | h
  · exact a
  · exact b u h
theorem DdAll.mono {F G : Addr → Prop} {H : Hp} (fg : ∀ a, F a → G a) : ∀ {vs : List V} {ds : List PyData}, DdAll F H vs ds → DdAll G H vs ds := by
  have go : ∀ {v : V} {d : PyData}, Dd F H v d → Dd G H v d := fun h => by
    induction h using Dd.rec (motive_2 := fun vs ds _ => DdAll G H vs ds) with
    | non => exact .non
    | bl b => exact .bl b
    | int i => exact .int i
    | str x => exact .str x
    | lst f e _ ih => exact .lst (fg _ f) e ih
    | tup e _ ih => exact .tup e ih
    | dic f e _ ih => exact .dic (fg _ f) e ih
    | nil => exact .nil
    | cons _ _ a b => exact .cons a b
  intro vs
  induction vs with
  | nil => intro ds h; cases h; exact .nil
  | cons v vs ih => intro ds h; cases h with | cons a b => exact .cons (go a) (ih b)
theorem Dd.mono {F G : Addr → Prop} {H : Hp} {v : V} {d : PyData} (fg : ∀ a, F a → G a) (h : Dd F H v d) : Dd G H v d := by
  have x := DdAll.mono fg (DdAll.cons h .nil)
  cases x with
  | cons a _ => exact a
theorem DdAll.snoc {F : Addr → Prop} {H : Hp} {v : V} {d : PyData} : ∀ {vs : List V} {ds : List PyData}, DdAll F H vs ds → Dd F H v d → DdAll F H (vs ++ [v]) (ds ++ [d])
  | _, _, .nil, h => .cons h .nil
  | _, _, .cons a b, h => .cons a (DdAll.snoc b h)
/-- the deck's own objects are no data -/
theorem kp_keep {d l : Addr} {F : Addr → Prop} {H H' : Hp} (D : Deck d l H) (k : Kp d l H H') (f : ∀ a, F a → a ≠ d ∧ a ≠ l) : ∀ a o, H a = some o → (F a ∨ ∃ xs, o = .tup xs) → H' a = some o := fun a o e h => by
  obtain ⟨ns, m, z, _, e1, e2⟩ := D.ex
  rcases h with h | ⟨xs, rfl⟩
  · exact k a o e (f a h).1 (f a h).2
  · exact k a _ e (ne_of e e1 (by intro z; cases z)) (ne_of e e2 (by intro z; cases z))
theorem Deck.off {d l : Addr} {H : Hp} (D : Deck d l H) {a : Addr} (h : H a = none) : a ≠ d ∧ a ≠ l := by
  obtain ⟨ns, m, z, _, e1, e2⟩ := D.ex
  exact ⟨(ne_of_none e1 h).symm, (ne_of_none e2 h).symm⟩
theorem Deck.upd {d l p : Addr} {o : HO} {H : Hp} (D : Deck d l H) (n : p ≠ d ∧ p ≠ l) : Deck d l (upd H p o) := by
  obtain ⟨ns, m, z, h, e1, e2⟩ := D.ex
  exact ⟨ns, m, z, h, by rw [upd_ne n.1.symm]; exact e1, by rw [upd_ne n.2.symm]; exact e2⟩
theorem Kp.mut {d l p : Addr} {o : HO} {H H' : Hp} (k : Kp d l H H') (h : H p = none) : Kp d l H (L2.upd H' p o) := fun a u e n1 n2 => by
  rw [upd_ne (ne_of_none e h)]
  exact k a u e n1 n2
/-- a list that is no part of the data changes -/
theorem upd_keep {F : Addr → Prop} {H : Hp} {p : Addr} {xs : List V} {o : HO} (e : H p = some (.lst xs)) (f : ∀ a, F a → a ≠ p) : ∀ a u, H a = some u → (F a ∨ ∃ xs, u = .tup xs) → upd H p o a = some u := fun a u ha h => by
  rcases h with h | ⟨ys, rfl⟩
  · rw [upd_ne (f a h)]; exact ha
  · rw [upd_ne (ne_of ha e (by intro z; cases z))]; exact ha
/-- a new object -/
theorem new_keep {F : Addr → Prop} {H : Hp} {p : Addr} {o : HO} (n : H p = none) : ∀ a u, H a = some u → (F a ∨ ∃ xs, u = .tup xs) → L2.upd H p o a = some u := fun a u ha _ => by
  rw [upd_ne (ne_of_none ha n)]
  exact ha
/-- what was there is there -/
theorem Kp.back {d l : Addr} {H H' : Hp} (D' : Deck d l H') (k : Kp d l H H') {a : Addr} (h : H' a = none) : H a = none := by
  cases e : H a with
  | none => rfl
  | some o =>
    have n := D'.off h
    rw [k a o e n.1 n.2] at h
    cases h
section
variable {P : Program} {w : World} {K : PySem.W.Frag} {mg : Str → Option Value} {base : Heap}
theorem sz_dict2 {n1 n2 n3 n4 m1 m2 m3 m4 : Nat} {a b c e : PyData} (za : Sz n1 m1 a) (zb : Sz n2 m2 b) (zc : Sz n3 m3 c) (ze : Sz n4 m4 e) : Sz (n1 + n2 + n3 + n4 + 4) (max (max m1 m2) (max m3 m4) + 1) (.dict [(a, b), (c, e)]) := by
  refine ⟨⟨by simp [PyData.showable, PyData.showableKv, za.sh, zb.sh, zc.sh, ze.sh], by simp [PyData.leavesShort, PyData.leavesShortKv, za.ls, zb.ls, zc.ls, ze.ls], ?_, ?_⟩, by simp [ibD, ibKv, za.ib, zb.ib, zc.ib, ze.ib]⟩
  · have b1 := za.bk
    have b2 := zb.bk
    have b3 := zc.bk
    have b4 := ze.bk
    simp only [PyData.bulk, PyData.bulkKv]
    omega
  · have b1 := za.dp
    have b2 := zb.dp
    have b3 := zc.dp
    have b4 := ze.dp
    simp only [PyData.depth, PyData.depthKv]
    omega
/-- how big -/
def big : Nat → Nat
  | 0 => 7
  | n + 1 => 3 * (big n + 1) + 7
def spAny (n : Nat) : Sp := fun vs H Q _ => ∃ (d l : Addr) (deep : Int), vs = [.ref d, .int deep] ∧ deep ≤ n ∧ Deck d l H ∧
  ∀ (v : V) (e : PyData) (H' : Hp), Dd (fun a => H a = none) H' v e → Sz (big n) (2 * n + 2) e → Deck d l H' → Kp d l H H' → Q v H'
theorem yes_go {σ : L2.St} {H : Hp} {A : Hp → Prop} {B : Hp → Prop} (h : A H) : tYes σ H fun b H3 => if b = true then A H3 else B H3 := by
  show if true = true then A H else B H
  exact iteT h
theorem merge_any {v u : V} : mergeK [] [((Sum.inr ("key" : Str) : Key), v), (.inl 1, u)] = [((Sum.inr ("key" : Str) : Key), v), (.inl 1, u)] := by
  have n0 : ¬ (Sum.inr ("key" : Str) : Key) = Sum.inl 1 := fun z => by cases z
  have n1 : valV [((Sum.inr ("key" : Str) : Key), v)] (Sum.inl 1) = none := (valV_neg n0).trans valV_nil
  show putK (putK ([] : List (Key × V)) (Sum.inr ("key" : Str)) v) (Sum.inl 1) u = _
  rw [show putK ([] : List (Key × V)) (Sum.inr ("key" : Str)) v = [((Sum.inr ("key" : Str) : Key), v)] from rfl, putK_new _ n1] <;> rfl
/-- the promise one deep less -/
def spAnyR : Nat → Sp
  | 0 => fun _ _ _ _ => False
  | n + 1 => spAny n
theorem big_ge : ∀ n, 7 ≤ big n
  | 0 => Nat.le_refl _
  | n + 1 => by have := big_ge n; unfold big; omega
theorem leaf_end {n : Nat} {d l : Addr} {xs : List V} {H : Hp} {Q : VK} (L : ∀ v ∈ xs, Leaf v) (q : ∀ (v : V) (e : PyData) (H' : Hp), Dd (fun a => H a = none) H' v e → Sz (big n) (2 * n + 2) e → Deck d l H' → Kp d l H H' → Q v H')
    {H1 : Hp} (k1 : Kp d l H H1) : ∀ (i : Nat) (v : V) (H' : Hp), xs[i]? = some v → Deck d l H' → Kp d l H1 H' → Q v H' := fun i v H' e D k => by
  obtain ⟨e, hd, z⟩ := L v (List.mem_of_getElem? e)
  exact q v e H' (hd _ _) (z.mono (big_ge n) (by omega)) D (k1.trans k)
theorem fk_anyS (S : At K mg "_law_any" sAny) (T : Blt mg) (GD : Fk P w K mg base CX0 1 "_law_draw" ["deck", "many"] spDraw) (GP : Fk P w K mg base CX0 2 "_law_pick" ["deck", "some"] spPick) (n : Nat)
    (GR : Fk P w K mg base CX0 (n + 2) "_law_any" ["deck", "deep"] (spAnyR n)) : Fk P w K mg base CX0 (n + 3) "_law_any" ["deck", "deep"] (spAny n) := by
  obtain ⟨f, fd, F, g⟩ := S.ex
  refine ⟨f, fd, F.ok scAny (fun vs H Q E h => ?_) (fun cdv A outer s H vs Q E hr h => ?_), F.binds fun _ _ _ _ _ _ us hl => (match us, hl with | [_, _], _ => rfl), g, F.kp, fun_lk F⟩
  · obtain ⟨d, l, m, rfl, _⟩ := h
    rfl
  · obtain ⟨d, l, deep, rfl, hn, D, q⟩ := h
    have h1 : Room 1 (A.deeper (envOfC "_law_any" (defScope sAny) s.heap.objs.size f cdv)) := hr.mono (by omega)
    have h2 : Room 2 (A.deeper (envOfC "_law_any" (defScope sAny) s.heap.objs.size f cdv)) := hr.mono (by omega)
    refine ⟨_, pss_cons (ps_set (i := 2) scAny.nd rfl (.inl rfl) (pe_cl GD h1 (by rfl) pass0 (pa_cons (pv 0) (pa_cons pe_int pa_nil))))
      (pss_cons (ps_if (pt_cmpR op_lt (pv 2) pe_int (nomark _)) (pss_one (ps_ret (pe_cl GP h2 (by rfl) pass0 (pa_cons (pv 0) (pa_cons (pe_lst (pa_cons pe_int (pa_cons pe_int (pa_cons (pe_un un_neg pe_int) (pa_cons pe_int
          (pa_cons (pe_op op_pow pe_int pe_int) (pa_cons (pe_un un_neg (pe_op op_pow pe_int pe_int)) (pa_cons pe_int (pa_cons pe_int pa_nil))))))))) pa_nil))))) pss_nil)
      (pss_cons (ps_if (pt_cmpR op_lt (pv 2) pe_int (nomark _)) (pss_one (ps_ret (pe_cl GP h2 (by rfl) pass0 (pa_cons (pv 0) (pa_cons (pe_lst (pa_cons pe_str (pa_cons pe_str (pa_cons pe_str (pa_cons pe_str (pa_cons pe_str (pa_cons pe_str pa_nil))))))) pa_nil))))) pss_nil)
      (pss_cons (ps_if (pt_cmpR op_eq (pv 2) pe_int (nomark _)) (pss_one (ps_ret (pe_cl GP h2 (by rfl) pass0 (pa_cons (pv 0) (pa_cons (pe_lst (pa_cons pe_bl (pa_cons pe_bl (pa_cons pe_non pa_nil)))) pa_nil))))) pss_nil)
      (Evl.pss_cut (ps_set (i := 3) scAny.nd rfl (.inl rfl) (pe_ifExp (pt_cmpR op_gt (pv 1) pe_int (nomark _))
          (pe_lc (own := [("turn", 4)]) (g := gName 4) (tt := tYes) rfl scAny.nd (pi_range1 rfl T.range (pa_cons (pe_cl GD h1 (by rfl) pass0 (pa_cons (pv 0) (pa_cons pe_int pa_nil))) pa_nil))
            (blkOk_by (own := [("turn", 4)]) (N := ["deck", "deep", "way", "some", "turn"]) (sc := defScope sAny) (by decide +kernel)) (fun _ _ _ _ _ => pg_name (i := 4) scAny.nd rfl (Or.inl rfl)) (fun _ _ _ _ _ => pts_nil)
            (fun _ _ _ _ _ => pe_cl GR hr (by rfl) pass0 (pa_cons (pv 0) (pa_cons (pe_op op_sub (pv 1) pe_int) pa_nil))))
          (pe_lst pa_nil)))
      (pss_cons (ps_if (pt_cmpR op_eq (pv 2) pe_int (nomark _)) (pss_one (ps_ret (pv 3))) pss_nil)
      (pss_one (ps_ret (pe_ifExp (pt_cmpR op_eq (pv 2) pe_int (nomark _))
        (pe_disp (pps_cons pe_str (pv 3) (pps_cons pe_int (pe_callB call_len_seq (by rfl) T.len PySem.boot_len (pa_cons (pv 3) pa_nil)) pps_nil)) (by rfl) (by rfl) (fun z => by cases z) (by decide))
        (pe_callTy call_tuple_of (by rfl) T.tuple (by decide +kernel) (pa_cons (pv 3) pa_nil)))))))))), ?_⟩
    refine ⟨_, rfl, d, l, 10, rfl, by decide, by decide, D, fun r H1 r0 r1 D1 k1 => ?_⟩
    have x0 : [some (V.ref d), some (V.int deep), some (V.int r), none, none] = [some (V.ref d), some (V.int deep), some (V.int r), none, none] := rfl
    -- way < 2
    refine ⟨_, rfl, r, 2, rfl, rfl, _, rfl, ite2 (fun _ => ?_) (fun c1 => ?_)⟩
    · refine ⟨_, rfl, 1, rfl, 10, 11, rfl, rfl, ⟨by decide, by decide, by decide⟩, 10, 10, rfl, rfl, ⟨by decide, by decide, by decide⟩, _, rfl, by show 8 ≤ sizeLine; decide, fun p np => ?_⟩
      refine ⟨d, l, p, _, rfl, D1.new np, upd_same, (D1.off np).1, (D1.off np).2, by decide, by decide, leaf_end (all_cons (leaf_int (by decide)) (all_cons (leaf_int (by decide)) (all_cons (leaf_int (by decide)) (all_cons (leaf_int (by decide))
        (all_cons (leaf_int (by decide)) (all_cons (leaf_int (by decide)) (all_cons (leaf_int (by decide)) (all_cons (leaf_int (by decide)) all_nil)))))))) q (k1.new np)⟩
    -- way < 4
    refine ⟨_, rfl, r, 4, rfl, rfl, _, rfl, ite2 (fun _ => ?_) (fun c2 => ?_)⟩
    · refine ⟨_, rfl, by show 6 ≤ sizeLine; decide, fun p np => ?_⟩
      refine ⟨d, l, p, _, rfl, D1.new np, upd_same, (D1.off np).1, (D1.off np).2, by decide, by decide, leaf_end (all_cons (leaf_str (by decide +kernel) (by decide +kernel)) (all_cons (leaf_str (by decide +kernel) (by decide +kernel)) (all_cons (leaf_str (by decide +kernel) (by decide +kernel))
        (all_cons (leaf_str (by decide +kernel) (by decide +kernel)) (all_cons (leaf_str (by decide +kernel) (by decide +kernel)) (all_cons (leaf_str (by decide +kernel) (by decide +kernel)) all_nil)))))) q (k1.new np)⟩
    -- way == 4
    refine ⟨_, rfl, rfl, _, rfl, ite2 (fun _ => ?_) (fun c3 => ?_)⟩
    · refine ⟨_, rfl, by show 3 ≤ sizeLine; decide, fun p np => ?_⟩
      refine ⟨d, l, p, _, rfl, D1.new np, upd_same, (D1.off np).1, (D1.off np).2, by decide, by decide, leaf_end (all_cons (leaf_bl _) (all_cons (leaf_bl _) (all_cons leaf_non all_nil))) q (k1.new np)⟩
    -- some = ..
    refine ⟨fun σ' H' => ∃ (a : Addr) (vs : List V) (ds : List PyData), σ' = [some (V.ref d), some (V.int deep), some (V.int r), some (V.ref a), none] ∧ H' a = some (.lst vs) ∧ H a = none ∧ DdAll (fun x => H x = none) H' vs ds ∧ ds.length ≤ 3 ∧ SzA (big n - 7) (2 * n) ds ∧ Deck d l H' ∧ Kp d l H H', ?_, ?_⟩
    · refine ⟨_, rfl, deep, 0, rfl, rfl, _, rfl, ite2 (fun hd => ?_) (fun _ => ?_)⟩
      · have hd : 0 < deep := of_decide_eq_true hd
        obtain ⟨n', rfl⟩ : ∃ n', n = n' + 1 := ⟨n - 1, by omega⟩
        refine ⟨_, rfl, d, l, 4, rfl, by decide, by decide, D1, fun t H2 t0 t1 D2 k2 => ⟨t, rfl, by omega, by omega, fun p np => ?_⟩⟩
        have kp2 := k1.trans k2
        have nHp : H p = none := kp2.back D2 np
        have offp := D2.off np
        refine lc_range (lo := 0) (n := t.toNat) (fun i H' => ∃ (vs : List V) (ds : List PyData), ds.length = i ∧ H' p = some (.lst vs) ∧ DdAll (fun a => H a = none ∧ a ≠ p) H' vs ds ∧ (∀ e ∈ ds, Sz (big n') (2 * n' + 2) e) ∧ Deck d l H' ∧ Kp d l H H')
          ⟨[], [], rfl, upd_same, .nil, (fun _ h => nomatch h), D2.new np, kp2.new np⟩ (fun i Hc hi hp => ?_) (fun H' hp => ?_)
        · obtain ⟨vs, ds, hl, ep, hdd, hsz, Dc, kc⟩ := hp
          refine ⟨rfl, yes_go ?_⟩
          refine ⟨_, rfl, _, rfl, deep, 1, rfl, rfl, d, l, deep - 1, rfl, by omega, Dc, fun v e H' hv zv D' k' => ?_⟩
          have ep' : H' p = some (.lst vs) := k' p _ ep offp.1 offp.2
          have fo : ∀ a, (H a = none ∧ a ≠ p) → a ≠ d ∧ a ≠ l := fun a h => D.off h.1
          have hdd' := DdAll.keep (upd_keep (o := .lst (vs ++ [v])) ep' fun a h => h.2) (DdAll.keep (kp_keep Dc k' fo) hdd)
          have hv' := Dd.keep (upd_keep (o := .lst (vs ++ [v])) ep' fun a h => h.2) (hv.mono (G := fun a => H a = none ∧ a ≠ p) fun a h => ⟨kc.back Dc h, fun z => by rw [z, ep] at h; cases h⟩)
          have hlen : vs.length < sizeLine := by
            rw [hdd.length, hl]
            exact small1000 (by omega)
          exact ⟨vs, ep', hlen, vs ++ [v], ds ++ [e], by rw [List.length_append, hl] <;> rfl, upd_same, hdd'.snoc hv', fun y hy => (List.mem_append.mp hy).elim (hsz y) (fun h => by rw [List.mem_singleton.mp h]; exact zv), D'.upd offp, (kc.trans k').mut nHp⟩
        · obtain ⟨vs, ds, hl, ep, hdd, hsz, Dc, kc⟩ := hp
          have hz := sza_of hsz
          have hl3 : ds.length ≤ 3 := by omega
          have hb : big (n' + 1) = 3 * (big n' + 1) + 7 := rfl
          have hm : (big n' + 1) * ds.length ≤ big (n' + 1) - 7 := by
            have := Nat.mul_le_mul_left (big n' + 1) hl3
            omega
          exact ⟨p, vs, ds, rfl, ep, nHp, DdAll.mono (fun a h => h.1) hdd, hl3, hz.mono hm (by omega), Dc, kc⟩
      · exact ⟨Nat.zero_le _, fun p np => ⟨p, [], [], rfl, upd_same, k1.back D1 np, .nil, by decide, sza_nil.mono (Nat.zero_le _) (Nat.le_refl _), D1.new np, k1.new np⟩⟩
    · rintro σ' H' ⟨a, vs, ds, rfl, ea, na, hdd, hl3, hz, D', k'⟩
      have hb := big_ge n
      -- way == 5
      refine ⟨_, rfl, rfl, _, rfl, ite2 (fun _ => ?_) (fun c5 => ?_)⟩
      · exact ⟨_, rfl, q _ _ H' (.lst na ea hdd) (hz.list.mono (by omega) (by omega)) D' k'⟩
      refine ⟨_, rfl, rfl, _, rfl, ite2 (fun _ => ?_) (fun c6 => ?_)⟩
      · refine fun t nt => ?_
        have e1 : (upd H' t (.dK [])) a = some (.lst vs) := by rw [upd_ne (ne_of_none ea nt)]; exact ea
        refine ⟨_, rfl, _, rfl, a, vs, rfl, .inl (SqL.of e1), upd_same, [(.inr ("key" : Str), .ref a), (.inl 1, .int (vs.length : Int))], rfl, by show 2 ≤ 15; decide, ?_⟩
        rw [merge_any, upd_upd]
        have hlen : vs.length ≤ 3 := by rw [hdd.length]; exact hl3
        refine q _ _ _ (.dic (k'.back D' nt) upd_same (.cons (.lst na (by rw [upd_ne (ne_of_none ea nt)]; exact ea) (DdAll.keep (new_keep nt) hdd)) (.cons (.int _) .nil))) ?_ (D'.new nt) (k'.new nt)
        have z1 := hz.list
        have z2 : Sz 0 0 (.int (vs.length : Int)) := sz_int (Nat.lt_of_le_of_lt (show ((vs.length : Nat) : Int).natAbs ≤ 3 by omega) (by decide))
        have z3 : Sz 3 0 (.str ("key" : Str)) := sz_str (by decide +kernel) (by decide +kernel)
        have z4 : Sz 0 0 (.int 1) := sz_int (by decide)
        show Sz (big n) (2 * n + 2) (.dict [(.str ("key" : Str), .list ds), (.int 1, .int (vs.length : Int))])
        exact (sz_dict2 (z3.mono (Nat.le_refl 3) (Nat.zero_le (2 * n))) (z1.mono (Nat.le_refl _) (Nat.le_refl _)) (z4.mono (Nat.le_refl 0) (Nat.zero_le (2 * n))) (z2.mono (Nat.le_refl 0) (Nat.zero_le (2 * n)))).mono (by omega) (by omega)
      · refine ⟨_, rfl, a, vs, rfl, .inl ⟨SqL.of ea, fun p np => ?_⟩⟩
        exact q _ _ _ (.tup upd_same (DdAll.keep (new_keep np) hdd)) (hz.tuple.mono (by omega) (by omega)) (D'.new np) (k'.new np)
theorem fk_none {x : Str} {st : Stmt} {k : Nat} {ps : List Str} (S : At K mg x st) (B : ∀ f fd, Fun K x x st f fd → Binds K fd ps []) : Fk P w K mg base CX0 k x ps (fun _ _ _ _ => False) := by
  obtain ⟨f, fd, F, g⟩ := S.ex
  exact ⟨f, fd, ⟨fun _ _ _ _ h => h.elim, fun _ _ _ _ _ _ _ _ _ _ _ _ _ h => h.elim⟩, B f fd F, g, F.kp, fun_lk F⟩
theorem fk_any (S : At K mg "_law_any" sAny) (T : Blt mg) (GD : Fk P w K mg base CX0 1 "_law_draw" ["deck", "many"] spDraw) (GP : Fk P w K mg base CX0 2 "_law_pick" ["deck", "some"] spPick) :
    ∀ n, Fk P w K mg base CX0 (n + 3) "_law_any" ["deck", "deep"] (spAny n)
  | 0 => fk_anyS S T GD GP 0 (fk_none S fun f fd F => F.binds fun _ _ _ _ _ _ us hl => (match us, hl with | [_, _], _ => rfl))
  | n + 1 => fk_anyS S T GD GP (n + 1) (fk_any S T GD GP n)
end
end Ey
namespace Ey
open PySem PySem.Spec PyProof.Rows L2
/-! ### data in rows -/
theorem dd_take {F : Addr → Prop} {H : Hp} : ∀ {vs : List V} {ds : List PyData} (n : Nat), DdAll F H vs ds → DdAll F H (vs.take n) (ds.take n)
  | _, _, 0, _ => .nil
  | _, _, _ + 1, .nil => .nil
  | _, _, n + 1, .cons a b => .cons a (dd_take n b)
theorem dd_drop {F : Addr → Prop} {H : Hp} : ∀ {vs : List V} {ds : List PyData} (n : Nat), DdAll F H vs ds → DdAll F H (vs.drop n) (ds.drop n)
  | _, _, 0, h => h
  | _, _, _ + 1, .nil => .nil
  | _, _, n + 1, .cons a b => dd_drop n b
theorem dd_app {F : Addr → Prop} {H : Hp} : ∀ {vs : List V} {ds : List PyData} {us : List V} {es : List PyData}, DdAll F H vs ds → DdAll F H us es → DdAll F H (vs ++ us) (ds ++ es)
  | _, _, _, _, .nil, h => h
  | _, _, _, _, .cons a b, h => .cons a (dd_app b h)
theorem dd_ints {F : Addr → Prop} {H : Hp} : ∀ ns : List Int, DdAll F H (ns.map V.int) (ns.map PyData.int)
  | [] => .nil
  | n :: r => .cons (.int n) (dd_ints r)
theorem lt250 {n : Nat} (h : n < 2 ^ 240) : n < 2 ^ 250 := Nat.lt_of_lt_of_le h (Nat.pow_le_pow_right (by decide) (by decide))
theorem sza_app {n1 n2 m : Nat} : ∀ {ds es : List PyData}, SzA n1 m ds → SzA n2 m es → SzA (n1 + n2) m (ds ++ es)
  | [], es, _, b => b.mono (by omega) (Nat.le_refl _)
  | d :: ds, es, a, b => by
    have a1 := a.sh
    have a2 := a.ls
    have a3 := a.bk
    have a4 := a.dp
    have a5 := a.ib
    simp only [PyData.showableAll, PyData.leavesShortAll, PyData.bulkAll, PyData.depthAll, ibAll, Bool.and_eq_true] at a1 a2 a3 a4 a5
    have ih := sza_app (n1 := PyData.bulkAll ds) (ds := ds) (es := es) ⟨⟨a1.2, a2.2, Nat.le_refl _, by omega⟩, a5.2⟩ b
    have hd : Sz (PyData.bulk d) m d := ⟨⟨a1.1, a2.1, Nat.le_refl _, by omega⟩, a5.1⟩
    exact (sza_cons hd ih).mono (by omega) (Nat.le_refl _)
/-- what bending takes: an integer, or (b) a tuple of integers -/
theorem dd_set {F : Addr → Prop} {H : Hp} {v : V} {e : PyData} : ∀ {vs : List V} {ds : List PyData} (n : Nat), DdAll F H vs ds → Dd F H v e → DdAll F H (vs.set n v) (ds.set n e)
  | _, _, _, .nil, _ => .nil
  | _, _, 0, .cons _ b, h => .cons h b
  | _, _, n + 1, .cons a b, h => .cons a (dd_set n b h)
theorem pick_dd {c m : Nat} {d l : Addr} {xs : List V} {H H1 : Hp} {Q : VK} {F : Addr → Prop} (D1 : Deck d l H1) (k1 : Kp d l H H1) (f : ∀ a, F a → a ≠ d ∧ a ≠ l) (L : ∀ v ∈ xs, ∃ e, Dd F H1 v e ∧ Sz c m e)
    (q : ∀ (v : V) (e : PyData) (H' : Hp), Dd F H' v e → Sz c m e → Deck d l H' → Kp d l H H' → Q v H') : ∀ (i : Nat) (v : V) (H' : Hp), xs[i]? = some v → Deck d l H' → Kp d l H1 H' → Q v H' := fun i v H' e D k => by
  obtain ⟨e, hd, z⟩ := L v (List.mem_of_getElem? e)
  exact q v e H' (Dd.keep (kp_keep D1 k f) hd) z D (k1.trans k)
end Ey
namespace Ey
open PySem PySem.Spec PyProof.Rows L2
/-! ### integers, tuples of integers -/
abbrev sIsInt : Stmt := topS 6
abbrev sIsTup : Stmt := topS 7
abbrev sLIsInt : Stmt := topS 23
abbrev sLAre : Stmt := topS 27
theorem scIsInt : FnScope ["thing"] ["thing"] (defScope sIsInt) := ⟨rfl, rfl, rfl, by decide +kernel, rfl, by decide +kernel, by decide +kernel⟩
theorem scLIsInt : FnScope ["thing"] ["thing"] (defScope sLIsInt) := ⟨rfl, rfl, rfl, by decide +kernel, rfl, by decide +kernel, by decide +kernel⟩
theorem scIsTup : FnScope ["thing", "many", "n"] ["thing", "many"] (defScope sIsTup) := ⟨rfl, rfl, rfl, by decide +kernel, rfl, by decide +kernel, by decide +kernel⟩
theorem scLAre : FnScope ["thing", "many", "x"] ["thing", "many"] (defScope sLAre) := ⟨rfl, rfl, rfl, by decide +kernel, rfl, by decide +kernel, by decide +kernel⟩
def isInt : PyData → Bool
  | .int _ => true
  | _ => false
def isBool : PyData → Bool
  | .bool _ => true
  | _ => false
def isTup : PyData → Bool
  | .tuple _ => true
  | _ => false
theorem ty_of {K : PySem.W.Frag} {F : Addr → Prop} {H : Hp} {v : V} {e : PyData} (h : Dd F H v e) : ∃ T : String, TyX K H v (.type T) ∧ kitB T "int" = some (isInt e || isBool e) ∧ kitB T "bool" = some (isBool e) ∧ kitB T "tuple" = some (isTup e) := by
  cases h with
  | non => exact ⟨_, .base .non, by show kitB "NoneType" "int" = some false; decide +kernel, by show kitB "NoneType" "bool" = some false; decide +kernel, by show kitB "NoneType" "tuple" = some false; decide +kernel⟩
  | bl b => exact ⟨_, .base (.bl b), by show kitB "bool" "int" = some true; decide +kernel, by show kitB "bool" "bool" = some true; decide +kernel, by show kitB "bool" "tuple" = some false; decide +kernel⟩
  | int i => exact ⟨_, .base (.int i), by show kitB "int" "int" = some true; decide +kernel, by show kitB "int" "bool" = some false; decide +kernel, by show kitB "int" "tuple" = some false; decide +kernel⟩
  | str x => exact ⟨_, .base (.str x), by show kitB "str" "int" = some false; decide +kernel, by show kitB "str" "bool" = some false; decide +kernel, by show kitB "str" "tuple" = some false; decide +kernel⟩
  | lst f e _ => exact ⟨_, .base (.lst e), by show kitB "list" "int" = some false; decide +kernel, by show kitB "list" "bool" = some false; decide +kernel, by show kitB "list" "tuple" = some false; decide +kernel⟩
  | tup e _ => exact ⟨_, .base (.tup e), by show kitB "tuple" "int" = some false; decide +kernel, by show kitB "tuple" "bool" = some false; decide +kernel, by show kitB "tuple" "tuple" = some true; decide +kernel⟩
  | dic f e _ => exact ⟨_, .base (.dK e), by show kitB "dict" "int" = some false; decide +kernel, by show kitB "dict" "bool" = some false; decide +kernel, by show kitB "dict" "tuple" = some false; decide +kernel⟩
theorem DdAll.at {F : Addr → Prop} {H : Hp} : ∀ {vs : List V} {ds : List PyData} {i : Nat} {v : V}, DdAll F H vs ds → vs[i]? = some v → ∃ e, ds[i]? = some e ∧ Dd F H v e
  | _, _, _, _, .nil, h => by simp at h
  | _, _, 0, _, .cons a _, h => by
    cases h
    exact ⟨_, rfl, a⟩
  | _, _, i + 1, _, .cons _ b, h => by
    obtain ⟨e, h1, h2⟩ := DdAll.at (i := i) b (by simpa using h)
    exact ⟨e, by simpa using h1, h2⟩
theorem ex_keep {F : Addr → Prop} {H H' : Hp} (x : Evl.Ex H H') : ∀ a o, H a = some o → (F a ∨ ∃ xs, o = .tup xs) → H' a = some o := fun a o e _ => x a o e
section
variable {P : Program} {w : World} {K : PySem.W.Frag} {mg : Str → Option Value} {base : Heap}
def spIsInt : Sp := fun vs H Q _ => ∃ (v : V) (F : Addr → Prop) (e : PyData), vs = [v] ∧ Dd F H v e ∧ Q (.bl (isInt e)) H
theorem isInt_read {e : PyData} {Q : V → Prop} (q : Q (.bl (isInt e))) : if (isInt e || isBool e) = true then Q (.bl (!isBool e)) else Q (.bl false) := by
  cases e <;> exact q
theorem fk_isInt (S : At K mg "is_integer" sIsInt) (T : Blt mg) : Fk P w K mg base CX0 1 "is_integer" ["thing"] spIsInt := by
  obtain ⟨f, fd, F, g⟩ := S.ex
  refine ⟨f, fd, F.ok scIsInt (fun vs H Q E h => ?_) (fun cdv A outer s H vs Q E hr h => ?_), F.binds fun _ _ _ _ _ _ us hl => (match us, hl with | [_], _ => rfl), g, F.kp, fun_lk F⟩
  · obtain ⟨v, G, e, rfl, _⟩ := h
    rfl
  · obtain ⟨v, G, e, rfl, hd, q⟩ := h
    refine ⟨_, pss_one (ps_ret (pe_and (pe_callB call_isi (by rfl) T.isinst (by decide +kernel) (pa_cons (pv 0) (pa_cons (pe_bltn (v := .ty "int") (by rfl) T.int (by decide +kernel) rfl) pa_nil)))
      (pe_one (pe_not (pe_callB call_isi (by rfl) T.isinst (by decide +kernel) (pa_cons (pv 0) (pa_cons (pe_bltn (v := .ty "bool") (by rfl) T.bool (by decide +kernel) rfl) pa_nil))))))), ?_⟩
    obtain ⟨t, ty, k1, k2, _⟩ := ty_of (K := K) hd
    refine ⟨_, rfl, _, _, _, _, _, rfl, .ty _, ty, kit_ty k1, _, rfl, ite2 (fun h1 => ?_) (fun h1 => ?_)⟩
    · refine ⟨_, rfl, _, _, _, _, _, rfl, .ty _, ty, kit_ty k2, _, rfl, ?_⟩
      have := isInt_read (Q := fun v => Q v H) q
      rw [if_pos h1] at this
      exact this
    · have := isInt_read (Q := fun v => Q v H) q
      rw [if_neg h1] at this
      exact this
theorem fk_lIsInt (S : At K mg "_law_is_integer" sLIsInt) (T : Blt mg) : Fk P w K mg base CX0 1 "_law_is_integer" ["thing"] spIsInt := by
  obtain ⟨f, fd, F, g⟩ := S.ex
  refine ⟨f, fd, F.ok scLIsInt (fun vs H Q E h => ?_) (fun cdv A outer s H vs Q E hr h => ?_), F.binds fun _ _ _ _ _ _ us hl => (match us, hl with | [_], _ => rfl), g, F.kp, fun_lk F⟩
  · obtain ⟨v, G, e, rfl, _⟩ := h
    rfl
  · obtain ⟨v, G, e, rfl, hd, q⟩ := h
    refine ⟨_, pss_one (ps_ret (pe_and (pe_callB call_isi (by rfl) T.isinst (by decide +kernel) (pa_cons (pv 0) (pa_cons (pe_bltn (v := .ty "int") (by rfl) T.int (by decide +kernel) rfl) pa_nil)))
      (pe_one (pe_not (pe_callB call_isi (by rfl) T.isinst (by decide +kernel) (pa_cons (pv 0) (pa_cons (pe_bltn (v := .ty "bool") (by rfl) T.bool (by decide +kernel) rfl) pa_nil))))))), ?_⟩
    obtain ⟨t, ty, k1, k2, _⟩ := ty_of (K := K) hd
    refine ⟨_, rfl, _, _, _, _, _, rfl, .ty _, ty, kit_ty k1, _, rfl, ite2 (fun h1 => ?_) (fun h1 => ?_)⟩
    · refine ⟨_, rfl, _, _, _, _, _, rfl, .ty _, ty, kit_ty k2, _, rfl, ?_⟩
      have := isInt_read (Q := fun v => Q v H) q
      rw [if_pos h1] at this
      exact this
    · have := isInt_read (Q := fun v => Q v H) q
      rw [if_neg h1] at this
      exact this
/-- whether it is a tuple of so many integers -/
def isInts (n : Int) : PyData → Bool
  | .tuple ds => (ds.length : Int) == n && ds.all isInt
  | _ => false
theorem isInts_tup {n : Int} {ds : List PyData} : isInts n (.tuple ds) = ((ds.length : Int) == n && ds.all isInt) := rfl
def spIsTup : Sp := fun vs H Q _ => ∃ (v : V) (F : Addr → Prop) (e : PyData) (n : Int) (c : Nat) (m : Nat), vs = [v, .int n] ∧ Dd F H v e ∧ Sz c m e ∧ c ≤ 7000 ∧ ∀ H', Evl.Ex H H' → Q (.bl (isInts n e)) H'
theorem bulk_len : ∀ ds : List PyData, ds.length ≤ PyData.bulkAll ds
  | [] => Nat.zero_le _
  | d :: ds => by
    have := bulk_len ds
    simp only [PyData.bulkAll, List.length_cons]
    omega
def spIsTupB : Sp := fun vs H Q _ => ∃ (v : V) (F : Addr → Prop) (e : PyData) (n : Int), vs = [v, .int n] ∧ Dd F H v e ∧ e.bulk ≤ 7000 ∧ ∀ H', Evl.Ex H H' → Q (.bl (isInts n e)) H'
theorem fk_isTupB (S : At K mg "is_tuple_of_integers" sIsTup) (T : Blt mg) (GI : Fk P w K mg base CX0 1 "is_integer" ["thing"] spIsInt) : Fk P w K mg base CX0 2 "is_tuple_of_integers" ["thing", "many"] spIsTupB := by
  obtain ⟨f, fd, F, g⟩ := S.ex
  refine ⟨f, fd, F.ok scIsTup (fun vs H Q E h => ?_) (fun cdv A outer s H vs Q E hr h => ?_), F.binds fun _ _ _ _ _ _ us hl => (match us, hl with | [_, _], _ => rfl), g, F.kp, fun_lk F⟩
  · obtain ⟨v, G, e, n, rfl, _⟩ := h
    rfl
  · obtain ⟨v, G, e, n, rfl, hd, hz, q⟩ := h
    refine ⟨_, pss_one (ps_ret (pe_and (pe_callB call_isi (by rfl) T.isinst (by decide +kernel) (pa_cons (pv 0) (pa_cons (pe_bltn (v := .ty "tuple") (by rfl) T.tuple (by decide +kernel) rfl) pa_nil)))
      (pe_and (pe_cmpR op_eq (pe_callB call_len_seq (by rfl) T.len PySem.boot_len (pa_cons (pv 0) pa_nil)) (pv 1) (nomark _))
        (pe_one (pe_callB (cr_all rfl) (by rfl) T.all (by decide +kernel) (pa_cons (pe_lc (own := [("n", 2)]) (g := gName 2) (tt := tYes) rfl scIsTup.nd (pi_tup (pv 0))
            (blkOk_by (own := [("n", 2)]) (N := ["thing", "many", "n"]) (sc := defScope sIsTup) (by decide +kernel)) (fun _ _ _ _ _ => pg_name (i := 2) scIsTup.nd rfl (Or.inl rfl)) (fun _ _ _ _ _ => pts_nil)
            (fun _ _ _ _ _ => pe_cl GI hr (by rfl) pass0 (pa_cons (pv 2) pa_nil))) pa_nil)))))), ?_⟩
    obtain ⟨t, ty, _, _, k3⟩ := ty_of (K := K) hd
    refine ⟨_, rfl, _, _, _, _, _, rfl, .ty _, ty, kit_ty k3, _, rfl, ite2 (fun h1 => ?_) (fun h1 => ?_)⟩
    · cases hd with
      | @tup a xs ds ea hdd =>
        refine ⟨_, rfl, a, xs, rfl, .inr (SqT.of ea), _, rfl, rfl, _, rfl, ite2 (fun h2 => ?_) (fun h2 => ?_)⟩
        · have h2 : ((xs.length : Nat) : Int) = n := V.int.inj (of_decide_eq_true h2)
          refine ⟨_, rfl, a, rfl, ⟨_, SqT.of ea⟩, fun p np => lc_tup (xs := xs) (fun i H' => Evl.Ex H H' ∧ H' p = some (.lst (((ds.take i).map isInt).map V.bl))) ⟨Evl.Ex.new np, upd_same⟩ (fun i H' _ h => SqT.of (h.1 _ _ ea)) (fun i x H' hx h => ?_) (fun H' h => ?_)⟩
          · obtain ⟨e, he, hde⟩ := hdd.at hx
            refine ⟨rfl, yes_go ?_⟩
            refine ⟨_, rfl, x, G, e, rfl, Dd.keep (ex_keep h.1) hde, _, h.2, ?_, h.1.mut np, ?_⟩
            · have hb : ds.length ≤ 7000 := by
                have b1 := hz
                have b2 := bulk_len ds
                simp only [PyData.bulk] at b1
                omega
              rw [List.length_map, List.length_map, List.length_take]
              exact Nat.lt_of_le_of_lt (Nat.min_le_right _ _) (Nat.lt_of_le_of_lt hb (by decide))
            · rw [upd_same, List.take_add_one, he, List.map_append, List.map_append] <;> rfl
          · refine ⟨p, _, rfl, SqL.of h.2, ?_⟩
            have e1 : (((ds.take xs.length).map isInt).all id) = isInts n (.tuple ds) := by
              have hl := hdd.length
              rw [isInts_tup, hl, List.take_length, List.all_map, show ((ds.length : Int) == n) = true by rw [← h2, hl]; exact beq_self_eq_true _]
              rfl
            rw [e1]
            exact q H' h.1
        · have h2 : ¬ ((xs.length : Nat) : Int) = n := fun z => h2 (by rw [z]; exact decide_eq_true rfl)
          have e1 : isInts n (.tuple ds) = false := by
            rw [isInts_tup, show ((ds.length : Int) == n) = false by rw [← hdd.length]; exact beq_eq_false_iff_ne.mpr h2] <;> rfl
          rw [← e1]
          exact q H (Evl.Ex.refl H)
      | _ => exact absurd h1 Bool.false_ne_true
    · have e1 : isInts n e = false := by cases e <;> first | rfl | exact absurd rfl h1
      rw [← e1]
      exact q H (Evl.Ex.refl H)
theorem fk_isTup (S : At K mg "is_tuple_of_integers" sIsTup) (T : Blt mg) (GI : Fk P w K mg base CX0 1 "is_integer" ["thing"] spIsInt) : Fk P w K mg base CX0 2 "is_tuple_of_integers" ["thing", "many"] spIsTup :=
  (fk_isTupB S T GI).weak fun vs H Q E h => by
    obtain ⟨v, G, e, n, c, m, rfl, hd, hz, hc, q⟩ := h
    exact ⟨v, G, e, n, rfl, hd, Nat.le_trans hz.bk hc, q⟩
end
end Ey
namespace Ey
open PySem PySem.Spec PyProof.Rows L2
/-! ### a list beside [] -/
section
variable {X : Cx}
def rEqNil (K : PySem.W.Frag) : R2 := fun x y H Q => ∃ (a b : Addr) (xs : List V), x = .ref a ∧ y = .ref b ∧ SqL K H a xs ∧ SqL K H b [] ∧ Q (.bl xs.isEmpty) H
theorem op_eqNil (hu : X.A.units < cLine) : OpR X (compareOp .Eq) (rEqNil X.K) := by
  intro pins s σ H x y v u Q I rx ry h
  obtain ⟨a, b, xs, rfl, rfl, ha, hb, q⟩ := h
  cases rx
  cases ry
  obtain ⟨i1, r1, p1, _⟩ := I.list ha
  obtain ⟨i2, r2, p2, _⟩ := I.list hb
  cases r2
  cases r1 with
  | nil => exact SeqAt.eq_listAt (e := fun _ => true) p1.isList p2.isList rfl hu (fun j h1 => absurd h1 (Nat.not_lt_zero j)) ⟨.bl true, H, I, rfl, q⟩
  | cons _ _ => exact SeqAt.eq_list_lengthsAt p1.isList p2.isList (by simp) hu ⟨.bl false, H, I, rfl, q⟩
end
section
variable {P : Program} {w : World} {K : PySem.W.Frag} {mg : Str → Option Value} {base : Heap}
theorem filt_int {ds : List PyData} : (ds.filter fun d => !isInt d).isEmpty = ds.all isInt := by
  induction ds with
  | nil => rfl
  | cons d ds ih =>
    rw [List.filter_cons, List.all_cons]
    cases isInt d with
    | true => simpa using ih
    | false => rfl
theorem fk_lAre (S : At K mg "_law_are_integers" sLAre) (T : Blt mg) (GI : Fk P w K mg base CX0 1 "_law_is_integer" ["thing"] spIsInt) : Fk P w K mg base CX0 2 "_law_are_integers" ["thing", "many"] spIsTup := by
  obtain ⟨f, fd, F, g⟩ := S.ex
  refine ⟨f, fd, F.ok scLAre (fun vs H Q E h => ?_) (fun cdv A outer s H vs Q E hr h => ?_), F.binds fun _ _ _ _ _ _ us hl => (match us, hl with | [_, _], _ => rfl), g, F.kp, fun_lk F⟩
  · obtain ⟨v, G, e, n, c, m, rfl, _⟩ := h
    rfl
  · obtain ⟨v, G, e, n, c, m, rfl, hd, hz, hc, q⟩ := h
    refine ⟨_, pss_one (ps_ret (pe_and (pe_callB call_isi (by rfl) T.isinst (by decide +kernel) (pa_cons (pv 0) (pa_cons (pe_bltn (v := .ty "tuple") (by rfl) T.tuple (by decide +kernel) rfl) pa_nil)))
      (pe_and (pe_cmpR op_eq (pe_callB call_len_seq (by rfl) T.len PySem.boot_len (pa_cons (pv 0) pa_nil)) (pv 1) (nomark _))
        (pe_one (pe_cmpR (op_eqNil hr.units0) (pe_lc (own := [("x", 2)]) (g := gName 2) rfl scLAre.nd (pi_tup (pv 0))
            (blkOk_by (own := [("x", 2)]) (N := ["thing", "many", "x"]) (sc := defScope sLAre) (by decide +kernel)) (fun _ _ _ _ _ => pg_name (i := 2) scLAre.nd rfl (Or.inl rfl))
            (fun _ _ _ _ _ => pts_one (pt_not (pt_val (pe_cl GI hr (by rfl) pass0 (pa_cons (pv 2) pa_nil)))))
            (fun _ _ _ _ _ => pv 2)) (pe_lst pa_nil) (nomark _)))))), ?_⟩
    obtain ⟨t, ty, _, _, k3⟩ := ty_of (K := K) hd
    refine ⟨_, rfl, _, _, _, _, _, rfl, .ty _, ty, kit_ty k3, _, rfl, ite2 (fun h1 => ?_) (fun h1 => ?_)⟩
    · cases hd with
      | @tup a xs ds ea hdd =>
        refine ⟨_, rfl, a, xs, rfl, .inr (SqT.of ea), _, rfl, rfl, _, rfl, ite2 (fun h2 => ?_) (fun h2 => ?_)⟩
        · have h2 : ((xs.length : Nat) : Int) = n := V.int.inj (of_decide_eq_true h2)
          have hb : ds.length ≤ 7000 := by
            have b1 := hz.bk
            have b2 := bulk_len ds
            simp only [PyData.bulk] at b1
            omega
          refine ⟨_, rfl, a, rfl, ⟨_, SqT.of ea⟩, fun p np => lc_tup (xs := xs) (fun i H' => Evl.Ex H H' ∧ ∃ ys : List V, H' p = some (.lst ys) ∧ ys.length = ((ds.take i).filter fun d => !isInt d).length) ⟨Evl.Ex.new np, [], upd_same, rfl⟩ (fun i H' _ h => SqT.of (h.1 _ _ ea)) (fun i x H' hx h => ?_) (fun H' h => ?_)⟩
          · obtain ⟨e, he, hde⟩ := hdd.at hx
            obtain ⟨x1, ys, ey, hl⟩ := h
            refine ⟨rfl, ?_⟩
            refine ⟨_, rfl, x, G, e, rfl, Dd.keep (ex_keep x1) hde, _, rfl, ite2 (fun hi => ?_) (fun hi => ?_)⟩
            · refine ⟨_, rfl, ys, ey, ?_, x1.mut np, ys ++ [x], upd_same, ?_⟩
              · have := List.length_filter_le (fun d => !isInt d) (ds.take i)
                rw [List.length_take] at this
                exact Nat.lt_of_le_of_lt (show ys.length ≤ 7000 by omega) (by decide)
              · rw [List.take_add_one, he, List.filter_append, List.length_append, List.length_append, hl]
                simp [hi]
            · refine ⟨x1, ys, ey, ?_⟩
              rw [List.take_add_one, he, List.filter_append, List.length_append, hl]
              simp [hi]
          · obtain ⟨x1, ys, ey, hl⟩ := h
            refine ⟨Nat.zero_le _, fun p2 np2 => ⟨p, p2, ys, rfl, rfl, SqL.of (by rw [upd_ne (ne_of_none ey np2)]; exact ey), SqL.of upd_same, ?_⟩⟩
            have e1 : ys.isEmpty = isInts n (.tuple ds) := by
              rw [hdd.length, List.take_length] at hl
              rw [isInts_tup, show ((ds.length : Int) == n) = true by rw [← h2, hdd.length]; exact beq_self_eq_true _, ← filt_int]
              rw [Bool.true_and]
              cases ys with
              | nil =>
                have := List.eq_nil_of_length_eq_zero hl.symm
                rw [this] <;> rfl
              | cons y ys =>
                cases hf : ds.filter fun d => !isInt d with
                | nil => rw [hf] at hl; cases hl
                | cons _ _ => rfl
            rw [e1]
            exact q _ (x1.trans (Evl.Ex.new np2))
        · have h2 : ¬ ((xs.length : Nat) : Int) = n := fun z => h2 (by rw [z]; exact decide_eq_true rfl)
          have e1 : isInts n (.tuple ds) = false := by
            rw [isInts_tup, show ((ds.length : Int) == n) = false by rw [← hdd.length]; exact beq_eq_false_iff_ne.mpr h2] <;> rfl
          rw [← e1]
          exact q H (Evl.Ex.refl H)
      | _ => exact absurd h1 Bool.false_ne_true
    · have e1 : isInts n e = false := by cases e <;> first | rfl | exact absurd rfl h1
      rw [← e1]
      exact q H (Evl.Ex.refl H)
end
end Ey
namespace Ey
open PySem PySem.Spec PyProof.Rows L2
/-! ### common divisors -/
abbrev sDiv : Stmt := topS 28
abbrev sLeast : Stmt := topS 29
theorem scDiv : FnScope ["row", "found", "x", "one", "other"] ["row"] (defScope sDiv) := ⟨rfl, rfl, rfl, by decide +kernel, rfl, by decide +kernel, by decide +kernel⟩
theorem scLeast : FnScope ["row", "divisor", "x"] ["row"] (defScope sLeast) := ⟨rfl, rfl, rfl, by decide +kernel, rfl, by decide +kernel, by decide +kernel⟩
/-- the greatest common divisor of a row -/
def gl (ns : List Int) : Nat := ns.foldl (fun g x => Nat.gcd x.natAbs g) 0
theorem gl_take {ns : List Int} {i : Nat} {x : Int} (h : ns[i]? = some x) : gl (ns.take (i + 1)) = Nat.gcd x.natAbs (gl (ns.take i)) := by
  unfold gl
  rw [List.take_add_one, h, List.foldl_append] <;> rfl
theorem gcd_step {p q : Int} (hp : 0 ≤ p) (hq : 0 < q) : Nat.gcd q.natAbs (p % q).natAbs = Nat.gcd p.natAbs q.natAbs := by
  rw [Int.natAbs_emod_of_nonneg hp, Nat.gcd_comm, Nat.gcd_comm p.natAbs]
  exact (Nat.gcd_rec q.natAbs p.natAbs).symm
section
variable {P : Program} {w : World} {K : PySem.W.Frag} {mg : Str → Option Value} {base : Heap}
theorem ints_at {ns : List Int} {i : Nat} {x : V} (h : (ns.map V.int)[i]? = some x) : ∃ y, ns[i]? = some y ∧ x = .int y := by
  rw [List.getElem?_map] at h
  cases e : ns[i]? with
  | none => rw [e] at h; cases h
  | some y => rw [e] at h; cases h; exact ⟨y, rfl, rfl⟩
def spDiv (K : PySem.W.Frag) : Sp := fun vs H Q _ => ∃ (a : Addr) (ns : List Int), vs = [.ref a] ∧ SqT K H a (ns.map V.int) ∧ Q (.int (gl ns : Nat)) H
theorem fk_div (S : At K mg "_law_divisor" sDiv) (T : Blt mg) : Fk P w K mg base CX0 1 "_law_divisor" ["row"] (spDiv K) := by
  obtain ⟨f, fd, F, g⟩ := S.ex
  refine ⟨f, fd, F.ok scDiv (fun vs H Q E h => ?_) (fun cdv A outer s H vs Q E hr h => ?_), F.binds fun _ _ _ _ _ _ us hl => (match us, hl with | [_], _ => rfl), g, F.kp, fun_lk F⟩
  · obtain ⟨a, ns, rfl, _⟩ := h
    rfl
  · obtain ⟨a, ns, rfl, ea, q⟩ := h
    refine ⟨_, pss_cons (ps_set (i := 1) scDiv.nd rfl (.inl rfl) pe_int)
      (pss_cons (ps_for PassesOwn.never rfl (pi_tup (pv 0)) (pg_name (i := 2) scDiv.nd rfl (.inl rfl))
        (pss_cons (ps_par (i := 3) (j := 4) (by rfl) scDiv.nd rfl rfl (by decide) rfl rfl (pa_cons (pe_callB call_abs (by rfl) T.abs (by decide +kernel) (pa_cons (pv 2) pa_nil)) (pa_cons (pv 1) pa_nil)) (by rfl))
        (pss_cons (ps_while PassesOwn.never (pt_cmpR op_ne (pv 4) pe_int (nomark _)) (pss_one (ps_par (i := 3) (j := 4) (by rfl) scDiv.nd rfl rfl (by decide) rfl rfl
          (pa_cons (pv 4) (pa_cons (pe_op op_mod (pe_callTy call_int1 (by rfl) T.int (by decide +kernel) (pa_cons (pv 3) pa_nil)) (pv 4)) pa_nil)) (by rfl))))
        (pss_one (ps_set (i := 1) scDiv.nd rfl (.inl rfl) (pv 3))))))
      (pss_one (ps_ret (pv 1)))), ?_⟩
    refine ⟨_, rfl, a, rfl, ⟨_, ea⟩, for_tup (xs := ns.map V.int) (fun i σ H' => H' = H ∧ ∃ x y z, σ = [some (.ref a), some (.int (gl (ns.take i) : Nat)), x, y, z]) ⟨rfl, none, none, none, rfl⟩ (fun i σ H' _ h => ?_) (fun i x σ H' hx h => ?_) (fun σ H' h => ?_)⟩
    · obtain ⟨rfl, _⟩ := h
      exact ea
    · obtain ⟨rfl, u, y, z, rfl⟩ := h
      obtain ⟨n, hn, rfl⟩ := ints_at hx
      refine ⟨.int n, rfl, n, rfl, .int (gl (ns.take i) : Nat), rfl, _, _, rfl, ?_⟩
      refine ⟨fun m σ H1 => H1 = H' ∧ ∃ p q : Int, σ = [some (.ref a), some (.int (gl (ns.take i) : Nat)), some (.int n), some (.int p), some (.int q)] ∧ 0 ≤ p ∧ 0 ≤ q ∧ m = q.toNat ∧ Nat.gcd p.natAbs q.natAbs = gl (ns.take (i + 1)),
        ⟨_, rfl, _, _, rfl, ?_, by omega, rfl, ?_⟩, ?_⟩
      · split <;> omega
      · rw [gl_take hn]
        congr 1
        split <;> omega
      · rintro m σ H1 ⟨rfl, p, q', rfl, hp, hq, rfl, hg⟩
        refine ⟨_, rfl, rfl, _, rfl, ite2 (fun hne => ?_) (fun hne => ?_)⟩
        · have hne : q' ≠ 0 := fun z => by rw [z] at hne; exact absurd hne (by decide)
          have hq0 : 0 < q' := by omega
          refine ⟨fun σ' H' => H' = H1 ∧ σ' = [some (.ref a), some (.int (gl (ns.take i) : Nat)), some (.int n), some (.int q'), some (.int (p % q'))], ?_, ?_⟩
          · rintro σ' H2 ⟨rfl, rfl⟩
            have h1 := Int.emod_nonneg p hne
            have h2 := Int.emod_lt_of_pos p hq0
            exact ⟨_, by omega, rfl, _, _, rfl, by omega, h1, rfl, by rw [gcd_step hp hq0]; exact hg⟩
          · exact ⟨_, rfl, _, rfl, .inl ⟨_, rfl, _, rfl, _, _, rfl, rfl, hq0, _, _, rfl, rfl, rfl⟩⟩
        · have hne : q' = 0 := by
            cases Decidable.em (q' = 0) with
            | inl h => exact h
            | inr h => exact absurd (show (!decide (V.int q' = V.int 0)) = true by rw [decide_eq_false (fun z => h (V.int.inj z))]; rfl) hne
          subst hne
          have e1 : p = ((gl (ns.take (i + 1)) : Nat) : Int) := by
            rw [← hg]
            simp
            omega
          refine ⟨_, rfl, ?_⟩
          refine ⟨rfl, some (.int n), some (.int p), some (.int 0), ?_⟩
          rw [← e1] <;> rfl
    · obtain ⟨rfl, x, y, z, rfl⟩ := h
      rw [List.length_map, List.take_length]
      exact ⟨_, rfl, q⟩
theorem gl_dvd {ns : List Int} : ∀ x ∈ ns, gl ns ∣ x.natAbs := by
  have go : ∀ (ns : List Int) (g : Nat), (ns.foldl (fun g x => Nat.gcd x.natAbs g) g) ∣ g ∧ ∀ x ∈ ns, (ns.foldl (fun g x => Nat.gcd x.natAbs g) g) ∣ x.natAbs := by
    intro ns
    induction ns with
    | nil => exact fun g => ⟨Nat.dvd_refl _, fun _ h => nomatch h⟩
    | cons y ns ih =>
      intro g
      obtain ⟨h1, h2⟩ := ih (Nat.gcd y.natAbs g)
      refine ⟨Nat.dvd_trans h1 (Nat.gcd_dvd_right _ _), fun x hx => ?_⟩
      rcases List.mem_cons.mp hx with rfl | hx
      · exact Nat.dvd_trans h1 (Nat.gcd_dvd_left _ _)
      · exact h2 x hx
  exact (go ns 0).2
theorem gl_pos {ns : List Int} (h : ns ≠ List.replicate ns.length 0) : ∃ x ∈ ns, 0 < gl ns ∧ gl ns ≤ x.natAbs := by
  have : ∃ x ∈ ns, x ≠ 0 := by
    refine Decidable.byContradiction fun hn => h (List.eq_replicate_iff.mpr ⟨rfl, fun x hx => ?_⟩)
    exact Decidable.byContradiction fun hx0 => hn ⟨x, hx, hx0⟩
  obtain ⟨x, hx, h0⟩ := this
  have hd := gl_dvd x hx
  have hp : 0 < x.natAbs := Int.natAbs_pos.mpr h0
  exact ⟨x, hx, Nat.pos_of_dvd_of_pos hd hp, Nat.le_of_dvd hp hd⟩
/-- the row in lowest terms -/
def lowest (ns : List Int) : List Int := ns.map fun x => x / (gl ns : Nat)
def spLeast (K : PySem.W.Frag) : Sp := fun vs H Q _ => ∃ (a : Addr) (ns : List Int), vs = [.ref a] ∧ SqT K H a (ns.map V.int) ∧ ns.length ≤ 100 ∧ 0 < gl ns ∧ gl ns < 2 ^ 2100 ∧
  ∀ p H', H p = none → Evl.Ex H H' → H' p = some (.tup ((lowest ns).map V.int)) → Q (.ref p) H'
theorem fk_least (S : At K mg "_law_least" sLeast) (T : Blt mg) (GD : Fk P w K mg base CX0 1 "_law_divisor" ["row"] (spDiv K)) : Fk P w K mg base CX0 2 "_law_least" ["row"] (spLeast K) := by
  obtain ⟨f, fd, F, g⟩ := S.ex
  refine ⟨f, fd, F.ok scLeast (fun vs H Q E h => ?_) (fun cdv A outer s H vs Q E hr h => ?_), F.binds fun _ _ _ _ _ _ us hl => (match us, hl with | [_], _ => rfl), g, F.kp, fun_lk F⟩
  · obtain ⟨a, ns, rfl, _⟩ := h
    rfl
  · obtain ⟨a, ns, rfl, ea, hl, h0, h1, q⟩ := h
    refine ⟨_, pss_cons (ps_set (i := 1) scLeast.nd rfl (.inr rfl) (pe_cl GD hr (by rfl) pass0 (pa_cons (pv 0) pa_nil)))
      (pss_one (ps_ret (pe_callTy call_tuple_of (by rfl) T.tuple (by decide +kernel) (pa_cons (pe_lc (own := [("x", 2)]) (g := gName 2) (tt := tYes) rfl scLeast.nd (pi_tup (pv 0))
            (blkOk_by (own := [("x", 2)]) (N := ["row", "divisor", "x"]) (sc := defScope sLeast) (by decide +kernel)) (fun _ _ _ _ _ => pg_name (i := 2) scLeast.nd rfl (Or.inl rfl)) (fun _ _ _ _ _ => pts_nil)
            (fun _ _ _ _ _ => pe_op op_fdivW (pv 2) (pv 1))) pa_nil)))), ?_⟩
    refine ⟨_, rfl, a, ns, rfl, ea, ?_⟩
    have hw : CDivW 0 ((gl ns : Nat) : Int) := wide_div (by omega) (show (((gl ns : Nat) : Int)).natAbs < 2 ^ 2100 by omega) (by decide) (by decide)
    refine ⟨_, rfl, a, rfl, ⟨_, ea⟩, fun p np => lc_tup (xs := ns.map V.int) (fun i H' => Evl.Ex H H' ∧ H' p = some (.lst (((lowest ns).take i).map V.int))) ⟨Evl.Ex.new np, upd_same⟩ (fun i H' _ h => Evl.ex_t h.1 ea) (fun i x H' hx h => ?_) (fun H' h => ?_)⟩
    · obtain ⟨n, hn, rfl⟩ := ints_at hx
      refine ⟨rfl, yes_go ?_⟩
      refine ⟨_, rfl, _, rfl, n, _, rfl, rfl, hw, _, h.2, ?_, h.1.mut np, ?_⟩
      · rw [List.length_map, List.length_take]
        exact Nat.lt_of_le_of_lt (Nat.min_le_right _ _) (by unfold lowest; rw [List.length_map]; exact small1000 (by omega))
      · have e1 : (lowest ns)[i]? = some (n / ((gl ns : Nat) : Int)) := by
          unfold lowest
          rw [List.getElem?_map, hn] <;> rfl
        rw [upd_same, List.take_add_one, e1, List.map_append] <;> rfl
    · have e1 : (lowest ns).take (ns.map V.int).length = lowest ns := List.take_of_length_le (by unfold lowest; rw [List.length_map, List.length_map]; exact Nat.le_refl _)
      rw [e1] at h
      refine ⟨p, _, rfl, .inl ⟨SqL.of h.2, fun t nt => ?_⟩⟩
      exact q t _ (Evl.fresh_back h.1 nt) (h.1.trans (Evl.Ex.new nt)) upd_same
end
end Ey
namespace Ey
open PySem PySem.Spec PyProof.Rows L2
/-! ### places, lines, directions: the program's and the law's -/
abbrev sIsPlace : Stmt := topS 9
theorem scIsPlace : FnScope ["thing"] ["thing"] (defScope sIsPlace) := ⟨rfl, rfl, rfl, by decide +kernel, rfl, by decide +kernel, by decide +kernel⟩
def isPlace : PyData → Bool
  | .tuple [.int x, .int y, .int w] => decide (0 < w) && decide (Nat.gcd (Nat.gcd x.natAbs y.natAbs) w.natAbs = 1)
  | _ => false
theorem isInts3 {e : PyData} (h : isInts 3 e = true) : ∃ x y w : Int, e = .tuple [.int x, .int y, .int w] := by
  cases e with
  | tuple ds =>
    rw [isInts_tup, Bool.and_eq_true] at h
    have hl : (ds.length : Int) = 3 := eq_of_beq h.1
    have ha := h.2
    match ds, hl, ha with
    | [a, b, c], _, ha =>
      rw [List.all_cons, List.all_cons, List.all_cons, Bool.and_eq_true, Bool.and_eq_true, Bool.and_eq_true] at ha
      cases a with
      | int x =>
        cases b with
        | int y =>
          cases c with
          | int z => exact ⟨x, y, z, rfl⟩
          | _ => exact absurd ha.2.2.1 Bool.false_ne_true
        | _ => exact absurd ha.2.1 Bool.false_ne_true
      | _ => exact absurd ha.1 Bool.false_ne_true
  | _ => exact absurd h Bool.false_ne_true
theorem isInts2 {e : PyData} (h : isInts 2 e = true) : ∃ x y : Int, e = .tuple [.int x, .int y] := by
  cases e with
  | tuple ds =>
    rw [isInts_tup, Bool.and_eq_true] at h
    have hl : (ds.length : Int) = 2 := eq_of_beq h.1
    have ha := h.2
    match ds, hl, ha with
    | [a, b], _, ha =>
      rw [List.all_cons, List.all_cons, Bool.and_eq_true, Bool.and_eq_true] at ha
      cases a with
      | int x =>
        cases b with
        | int y => exact ⟨x, y, rfl⟩
        | _ => exact absurd ha.2.1 Bool.false_ne_true
      | _ => exact absurd ha.1 Bool.false_ne_true
  | _ => exact absurd h Bool.false_ne_true
theorem isPlace_no {e : PyData} (h : isInts 3 e = false) : isPlace e = false := by
  unfold isPlace
  split
  · exact absurd (show true = false from h) (by decide)
  · rfl
/-- a tuple of three integers, where it stands -/
theorem dd_tup3 {F : Addr → Prop} {H : Hp} {v : V} {x y z : Int} (h : Dd F H v (.tuple [.int x, .int y, .int z])) : ∃ a, v = .ref a ∧ H a = some (.tup ([x, y, z].map V.int)) := by
  cases h with
  | tup e r =>
    cases r with
    | cons a r =>
      cases r with
      | cons b r =>
        cases r with
        | cons c r =>
          cases r
          cases a
          cases b
          cases c
          exact ⟨_, rfl, e⟩
theorem dd_tup2 {F : Addr → Prop} {H : Hp} {v : V} {x y : Int} (h : Dd F H v (.tuple [.int x, .int y])) : ∃ a, v = .ref a ∧ H a = some (.tup ([x, y].map V.int)) := by
  cases h with
  | tup e r =>
    cases r with
    | cons a r =>
      cases r with
      | cons b r =>
        cases r
        cases a
        cases b
        exact ⟨_, rfl, e⟩
theorem gl3 (x y z : Int) : gl [x, y, z] = Nat.gcd (Nat.gcd x.natAbs y.natAbs) z.natAbs := by
  show Nat.gcd z.natAbs (Nat.gcd y.natAbs (Nat.gcd x.natAbs 0)) = _
  rw [Nat.gcd_zero_right, Nat.gcd_comm y.natAbs, Nat.gcd_comm]
theorem gl2 (x y : Int) : gl [x, y] = Nat.gcd x.natAbs y.natAbs := by
  show Nat.gcd y.natAbs (Nat.gcd x.natAbs 0) = _
  rw [Nat.gcd_zero_right, Nat.gcd_comm]
theorem dec_one (n : Nat) : decide (V.int ((n : Nat) : Int) = V.int 1) = decide (n = 1) := by
  by_cases h : n = 1
  · subst h; rfl
  · rw [decide_eq_false h, decide_eq_false]
    intro z
    have := V.int.inj z
    omega
section
variable {P : Program} {w : World} {K : PySem.W.Frag} {mg : Str → Option Value} {base : Heap}
/-- a look at any value -/
def spIs (p : PyData → Bool) : Sp := fun vs H Q _ => ∃ (v : V) (F : Addr → Prop) (e : PyData) (c m : Nat), vs = [v] ∧ Dd F H v e ∧ Sz c m e ∧ c ≤ 7000 ∧ ∀ H', Evl.Ex H H' → Q (.bl (p e)) H'
def spIsB (p : PyData → Bool) : Sp := fun vs H Q _ => ∃ (v : V) (F : Addr → Prop) (e : PyData), vs = [v] ∧ Dd F H v e ∧ e.bulk ≤ 7000 ∧ ∀ H', Evl.Ex H H' → Q (.bl (p e)) H'
theorem isB_weak (p : PyData → Bool) : ∀ vs H Q E, spIs p vs H Q E → spIsB p vs H Q E := fun vs H Q E h => by
  obtain ⟨v, G, e, c, m, rfl, hd, hz, hc, q⟩ := h
  exact ⟨v, G, e, rfl, hd, Nat.le_trans hz.bk hc, q⟩
theorem fk_isPlaceB (S : At K mg "is_place" sIsPlace) (gg : mg "gcd" = some (.builtin "math.gcd")) (GT : Fk P w K mg base CX0 2 "is_tuple_of_integers" ["thing", "many"] spIsTupB) : Fk P w K mg base CX0 3 "is_place" ["thing"] (spIsB isPlace) := by
  obtain ⟨f, fd, F, g⟩ := S.ex
  refine ⟨f, fd, F.ok scIsPlace (fun vs H Q E h => ?_) (fun cdv A outer s H vs Q E hr h => ?_), F.binds fun _ _ _ _ _ _ us hl => (match us, hl with | [_], _ => rfl), g, F.kp, fun_lk F⟩
  · obtain ⟨v, G, e, rfl, _⟩ := h
    rfl
  · obtain ⟨v, G, e, rfl, hd, hz, q⟩ := h
    refine ⟨_, pss_one (ps_ret (pe_and (pe_cl GT hr (by rfl) pass0 (pa_cons (pv 0) (pa_cons pe_int pa_nil)))
      (pe_and (pe_cmpR op_gt (pe_ix ix_tup (pv 0) pe_int (fun _ _ => rfl)) pe_int (nomark _))
        (pe_one (pe_cmpR op_eq (pe_callBfun cr_gcd3 (by rfl) gg (pa_cons (pe_ix ix_tup (pv 0) pe_int (fun _ _ => rfl)) (pa_cons (pe_ix ix_tup (pv 0) pe_int (fun _ _ => rfl)) (pa_cons (pe_ix ix_tup (pv 0) pe_int (fun _ _ => rfl)) pa_nil)))) pe_int (nomark _)))))), ?_⟩
    refine ⟨_, rfl, v, G, e, 3, rfl, hd, hz, fun H' x => ⟨_, rfl, ite2 (fun h1 => ?_) (fun h1 => ?_)⟩⟩
    · obtain ⟨x1, y1, w1, rfl⟩ := isInts3 h1
      obtain ⟨a, rfl, ea⟩ := dd_tup3 (Dd.keep (ex_keep x) hd)
      have at0 : atI ([x1, y1, w1].map V.int) 0 = some (.int x1) := atI_nat (j := 0) rfl
      have at1 : atI ([x1, y1, w1].map V.int) 1 = some (.int y1) := atI_nat (j := 1) rfl
      have at2 : atI ([x1, y1, w1].map V.int) 2 = some (.int w1) := atI_nat (j := 2) rfl
      refine ⟨_, rfl, a, _, 2, _, rfl, rfl, SqT.of ea, at2, w1, 0, rfl, rfl, _, rfl, ite2 (fun h2 => ?_) (fun h2 => ?_)⟩
      · refine ⟨_, rfl, a, _, 0, _, rfl, rfl, SqT.of ea, at0, _, rfl, a, _, 1, _, rfl, rfl, SqT.of ea, at1, _, rfl, a, _, 2, _, rfl, rfl, SqT.of ea, at2, x1, y1, w1, rfl, rfl, ?_⟩
        rw [dec_one]
        have e1 : isPlace (.tuple [.int x1, .int y1, .int w1]) = decide (Nat.gcd (Nat.gcd x1.natAbs y1.natAbs) w1.natAbs = 1) := by
          show (decide (0 < w1) && _) = _
          rw [h2, Bool.true_and]
        rw [← e1]
        exact q H' x
      · have e1 : isPlace (.tuple [.int x1, .int y1, .int w1]) = false := by
          show (decide (0 < w1) && _) = _
          rw [show decide (0 < w1) = false by simpa using h2, Bool.false_and]
        rw [← e1]
        exact q H' x
    · have e1 := isPlace_no (e := e) (by simpa using h1)
      rw [← e1]
      exact q H' x
theorem fk_isPlace (S : At K mg "is_place" sIsPlace) (gg : mg "gcd" = some (.builtin "math.gcd")) (GT : Fk P w K mg base CX0 2 "is_tuple_of_integers" ["thing", "many"] spIsTupB) : Fk P w K mg base CX0 3 "is_place" ["thing"] (spIs isPlace) :=
  (fk_isPlaceB S gg GT).weak (isB_weak isPlace)
end
end Ey
namespace Ey
open PySem PySem.Spec PyProof.Rows L2
abbrev sIsLine : Stmt := topS 10
abbrev sLIsLine : Stmt := topS 30
def isDir : PyData → Bool
  | .tuple [.int x, .int y] => decide (Nat.gcd x.natAbs y.natAbs = 1)
  | _ => false
theorem isDir_no {e : PyData} (h : isInts 2 e = false) : isDir e = false := by
  unfold isDir
  split
  · exact absurd (show true = false from h) (by decide)
  · rfl
theorem isDir_eq {x y : Int} : isDir (.tuple [.int x, .int y]) = decide (Nat.gcd x.natAbs y.natAbs = 1) := rfl
theorem scIsLine : FnScope ["thing"] ["thing"] (defScope sIsLine) := ⟨rfl, rfl, rfl, by decide +kernel, rfl, by decide +kernel, by decide +kernel⟩
theorem scLIsLine : FnScope ["thing"] ["thing"] (defScope sLIsLine) := ⟨rfl, rfl, rfl, by decide +kernel, rfl, by decide +kernel, by decide +kernel⟩
def isLine : PyData → Bool
  | .tuple [.int x, .int y, .int w] => !(decide (x = 0) && decide (y = 0)) && decide (Nat.gcd (Nat.gcd x.natAbs y.natAbs) w.natAbs = 1)
  | _ => false
theorem isLine_no {e : PyData} (h : isInts 3 e = false) : isLine e = false := by
  unfold isLine
  split
  · exact absurd (show true = false from h) (by decide)
  · rfl
theorem isLine_eq {x y w : Int} : isLine (.tuple [.int x, .int y, .int w]) = (!(decide (x = 0) && decide (y = 0)) && decide (Nat.gcd (Nat.gcd x.natAbs y.natAbs) w.natAbs = 1)) := rfl
theorem eqv_ints : ∀ a b : List Int, PyData.eqv (.tuple (a.map .int)) (.tuple (b.map .int)) = decide (a = b) := by
  have go : ∀ a b : List Int, PyData.eqvAll (a.map .int) (b.map .int) = decide (a = b) := by
    intro a
    induction a with
    | nil =>
      intro b
      cases b <;> simp [PyData.eqvAll]
    | cons x a ih =>
      intro b
      cases b with
      | nil => simp [PyData.eqvAll]
      | cons y b =>
        simp only [List.map_cons, PyData.eqvAll, PyData.eqv, ih]
        by_cases h1 : x = y
        · by_cases h2 : a = b
          · simp [h1, h2]
          · simp [h1, h2]
        · simp [h1]
  intro a b
  simp only [PyData.eqv, go]
theorem shaped_tup (ns : List Int) : SeqAt.shaped (.tuple (ns.map PyData.int)) = true := by
  unfold SeqAt.shaped
  simp [PyData.canLay0, PyData.depth, lay_ints, dep_ints]
section
variable {P : Program} {w : World} {K : PySem.W.Frag} {mg : Str → Option Value} {base : Heap}
theorem fk_isLineB (S : At K mg "is_line" sIsLine) (gg : mg "gcd" = some (.builtin "math.gcd")) (GT : Fk P w K mg base CX0 2 "is_tuple_of_integers" ["thing", "many"] spIsTupB) : Fk P w K mg base CX0 3 "is_line" ["thing"] (spIsB isLine) := by
  obtain ⟨f, fd, F, g⟩ := S.ex
  refine ⟨f, fd, F.ok scIsLine (fun vs H Q E h => ?_) (fun cdv A outer s H vs Q E hr h => ?_), F.binds fun _ _ _ _ _ _ us hl => (match us, hl with | [_], _ => rfl), g, F.kp, fun_lk F⟩
  · obtain ⟨v, G, e, rfl, _⟩ := h
    rfl
  · obtain ⟨v, G, e, rfl, hd, hz, q⟩ := h
    refine ⟨_, pss_cons (ps_if (PW.pt (pw_or (pt_not (pt_val (pe_cl GT hr (by rfl) pass0 (pa_cons (pv 0) (pa_cons pe_int pa_nil))))) (pw_or1 (pt_chain op_eq op_eq (pe_ix ix_tup (pv 0) pe_int (fun _ _ => rfl)) (pe_ix ix_tup (pv 0) pe_int (fun _ _ => rfl)) pe_int)))) (pss_one (ps_ret pe_bl)) pss_nil)
      (pss_one (ps_ret (pe_cmpR op_eq (pe_callBfun cr_gcd3 (by rfl) gg (pa_cons (pe_ix ix_tup (pv 0) pe_int (fun _ _ => rfl)) (pa_cons (pe_ix ix_tup (pv 0) pe_int (fun _ _ => rfl)) (pa_cons (pe_ix ix_tup (pv 0) pe_int (fun _ _ => rfl)) pa_nil)))) pe_int (nomark _)))), ?_⟩
    refine ⟨_, rfl, v, G, e, 3, rfl, hd, hz, fun H' x => ⟨_, rfl, ite2 (fun h1 => ?_) (fun h1 => ?_)⟩⟩
    · have e1 := isLine_no (e := e) (by simpa using h1)
      refine iteT ?_
      rw [← show V.bl (isLine e) = .bl false by rw [e1]]
      exact q H' x
    · obtain ⟨x1, y1, w1, rfl⟩ := isInts3 (by simpa using h1)
      obtain ⟨a, rfl, ea⟩ := dd_tup3 (Dd.keep (ex_keep x) hd)
      have at0 : atI ([x1, y1, w1].map V.int) 0 = some (.int x1) := atI_nat (j := 0) rfl
      have at1 : atI ([x1, y1, w1].map V.int) 1 = some (.int y1) := atI_nat (j := 1) rfl
      have at2 : atI ([x1, y1, w1].map V.int) 2 = some (.int w1) := atI_nat (j := 2) rfl
      have fin : (∀ b : Bool, b = (decide (x1 = 0) && decide (y1 = 0)) → (if b = true then Q (.bl false) H' else Q (.bl (decide (V.int ((Nat.gcd (Nat.gcd x1.natAbs y1.natAbs) w1.natAbs : Nat) : Int) = V.int 1))) H')) := fun b hb => by
        have q' := q H' x
        rw [isLine_eq, ← hb] at q'
        rw [dec_one]
        cases b <;> simpa using q'
      have last : ∀ b : Bool, b = (decide (x1 = 0) && decide (y1 = 0)) → tIfS (fun σ H Q => Q b H) (tRet (tC (.bl false))) tNext { nx := tRet (tOp rEq (tCB rGcd3 (tCons (tOp (rIxT K) (tVar 0) (tC (.int 0))) (tCons (tOp (rIxT K) (tVar 0) (tC (.int 1))) (tCons (tOp (rIxT K) (tVar 0) (tC (.int 2))) tNil)))) (tC (.int 1))) { nx := fun _ H' => Q .non H', rt := Q }, rt := Q } (L2.start ["thing"] [.ref a]) H' := fun b hb => by
        have f := fin b hb
        cases b with
        | true => exact f
        | false => exact ⟨_, rfl, a, _, 0, _, rfl, rfl, SqT.of ea, at0, _, rfl, a, _, 1, _, rfl, rfl, SqT.of ea, at1, _, rfl, a, _, 2, _, rfl, rfl, SqT.of ea, at2, x1, y1, w1, rfl, rfl, f⟩
      refine ⟨_, rfl, a, _, 0, _, rfl, rfl, SqT.of ea, at0, _, rfl, a, _, 1, _, rfl, rfl, SqT.of ea, at1, rfl, _, rfl, ite2 (fun h2 => ?_) (fun h2 => ?_)⟩
      · have h2 : x1 = y1 := V.int.inj (of_decide_eq_true h2)
        subst h2
        exact ⟨rfl, _, rfl, last _ (by by_cases h : x1 = 0 <;> simp [h])⟩
      · have h2 : ¬ x1 = y1 := fun z => h2 (decide_eq_true (by rw [z]))
        exact ⟨_, rfl, last false (by by_cases h : x1 = 0 <;> by_cases h' : y1 = 0 <;> simp [h, h']; omega)⟩
theorem fk_isLine (S : At K mg "is_line" sIsLine) (gg : mg "gcd" = some (.builtin "math.gcd")) (GT : Fk P w K mg base CX0 2 "is_tuple_of_integers" ["thing", "many"] spIsTupB) : Fk P w K mg base CX0 3 "is_line" ["thing"] (spIs isLine) :=
  (fk_isLineB S gg GT).weak (isB_weak isLine)
theorem fk_lIsLine (S : At K mg "_law_is_line" sLIsLine) (GT : Fk P w K mg base CX0 2 "_law_are_integers" ["thing", "many"] spIsTup) (GD : Fk P w K mg base CX0 1 "_law_divisor" ["row"] (spDiv K)) : Fk P w K mg base CX0 3 "_law_is_line" ["thing"] (spIs isLine) := by
  obtain ⟨f, fd, F, g⟩ := S.ex
  refine ⟨f, fd, F.ok scLIsLine (fun vs H Q E h => ?_) (fun cdv A outer s H vs Q E hr h => ?_), F.binds fun _ _ _ _ _ _ us hl => (match us, hl with | [_], _ => rfl), g, F.kp, fun_lk F⟩
  · obtain ⟨v, G, e, c, m, rfl, _⟩ := h
    rfl
  · obtain ⟨v, G, e, c, m, rfl, hd, hz, hc, q⟩ := h
    refine ⟨_, pss_one (ps_ret (pe_and (pe_cl GT hr (by rfl) pass0 (pa_cons (pv 0) (pa_cons pe_int pa_nil)))
      (pe_and (pe_cmpR (op_neD hr.units) (pe_slice sl_tup (pv 0) po_none (po_some pe_int)) (pe_tup (pa_cons pe_int (pa_cons pe_int pa_nil))) (nomark _))
        (pe_one (pe_cmpR op_eq (pe_cl GD (hr.mono (by decide)) (by rfl) pass0 (pa_cons (pv 0) pa_nil)) pe_int (nomark _)))))), ?_⟩
    refine ⟨_, rfl, v, G, e, 3, c, m, rfl, hd, hz, hc, fun H' x => ⟨_, rfl, ite2 (fun h1 => ?_) (fun h1 => ?_)⟩⟩
    · obtain ⟨x1, y1, w1, rfl⟩ := isInts3 h1
      obtain ⟨a, rfl, ea⟩ := dd_tup3 (Dd.keep (ex_keep x) hd)
      refine ⟨_, rfl, 2, rfl, a, _, rfl, SqT.of ea, (by show ¬(HT.sIx 3 0 none = 0 ∧ HT.sIx 3 3 (some 2) = 3); decide), fun p np => ?_⟩
      rw [show cutV ([x1, y1, w1].map V.int) none (some 2) = [x1, y1].map V.int from rfl]
      refine ⟨by show 2 ≤ sizeLine; decide, fun p2 np2 => ?_⟩
      have b1 : (upd H' p (.tup ([x1, y1].map V.int))) p = some (.tup ([x1, y1].map V.int)) := upd_same
      refine ⟨.tuple ([x1, y1].map .int), .tuple ([0, 0].map .int), .tup (SqT.of (by rw [upd_ne (ne_of_none b1 np2)]; exact b1)) (dp_ints _), .tup (SqT.of upd_same) (dp_ints [0, 0]), shaped_tup _, shaped_tup _, ?_⟩
      have x2 : Evl.Ex H' (upd (upd H' p (.tup ([x1, y1].map V.int))) p2 (.tup [.int 0, .int 0])) := (Evl.Ex.new np).trans (Evl.Ex.new np2)
      have q' := q _ (x.trans x2)
      generalize upd (upd H' p (.tup ([x1, y1].map V.int))) p2 (.tup [.int 0, .int 0]) = H2 at x2 q'
      rw [eqv_ints]
      rw [isLine_eq] at q'
      have e0 : decide ([x1, y1] = [0, 0]) = (decide (x1 = 0) && decide (y1 = 0)) := by simp
      refine ⟨_, rfl, ite2 (fun h2 => ?_) (fun h2 => ?_)⟩
      · rw [e0] at h2
        rw [h2, Bool.true_and] at q'
        refine ⟨_, rfl, a, [x1, y1, w1], rfl, SqT.of (x2 _ _ ea), rfl, ?_⟩
        rw [dec_one, gl3]
        exact q'
      · rw [e0] at h2
        rw [show (!(decide (x1 = 0) && decide (y1 = 0))) = false by simpa using h2, Bool.false_and] at q'
        exact q'
    · have e1 := isLine_no (e := e) (by simpa using h1)
      rw [← e1]
      exact q H' x
end
end Ey
namespace Ey
open PySem PySem.Spec PyProof.Rows L2
/-! ### values bent -/
abbrev sInstead : Stmt := topS 25
abbrev sBent : Stmt := topS 26
theorem scInstead : FnScope ["some", "at", "item"] ["some", "at", "item"] (defScope sInstead) := ⟨rfl, rfl, rfl, by decide +kernel, rfl, by decide +kernel, by decide +kernel⟩
theorem scBent : FnScope ["deck", "thing", "deep", "way", "at"] ["deck", "thing", "deep"] (defScope sBent) := ⟨rfl, rfl, rfl, by decide +kernel, rfl, by decide +kernel, by decide +kernel⟩
theorem sz_text {i : Int} (h : i.natAbs < 2 ^ 250) : Sz 252 0 (.str (toString i : String)) := by
  refine sz_str ?_ ?_
  · rw [Str.ofString_eq_toList, List.all_eq_true]
    intro c hc
    rw [List.mem_map] at hc
    obtain ⟨ch, _, rfl⟩ := hc
    exact decide_eq_true (Nat.lt_of_lt_of_le (show ch.toNat < 2 ^ 32 from ch.val.toNat_lt) (by decide))
  · show (Str.ofString (toString i)).length ≤ 252
    rw [PySem.ofString_length]
    have g : i.natAbs.log2 < 250 := by
      by_cases h0 : i.natAbs = 0
      · rw [h0]; decide
      · exact (Nat.log2_lt h0).mpr h
    exact Nat.le_trans (int_text_length_le (by decide) g) (by decide)
/-- a piece of a tuple -/
def Bnd (ns : List Int) : Prop := ns.length ≤ 10 ∧ ∀ n ∈ ns, n.natAbs < 2 ^ 240
theorem Bnd.sz {ns : List Int} (b : Bnd ns) : SzA 10 0 (ns.map PyData.int) := by
  have h := sza_of (ds := ns.map PyData.int) (n := 0) (m := 0) fun d hd => by
    obtain ⟨n, hn, rfl⟩ := List.mem_map.mp hd
    exact sz_int (lt250 (b.2 n hn))
  exact h.mono (by have := b.1; rw [List.length_map]; omega) (Nat.le_refl _)
def BIn (b : Bool) (H : Hp) (v : V) : Prop := (∃ i, v = .int i ∧ i.natAbs < 2 ^ 240) ∨ (b = true ∧ ∃ a ns, v = .ref a ∧ H a = some (.tup (ns.map V.int)) ∧ Bnd ns)
section
variable {P : Program} {w : World} {K : PySem.W.Frag} {mg : Str → Option Value} {base : Heap}
theorem cut_eq (vs : List V) (k : Int) : cutV vs none (some k) = vs.take (HT.sIx vs.length vs.length (some k)) := by
  unfold cutV
  rw [HT.sIx_none, List.drop_zero, Nat.sub_zero]
theorem cut_from (vs : List V) (k : Int) : cutV vs (some k) none = vs.drop (HT.sIx vs.length 0 (some k)) := by
  unfold cutV
  rw [HT.sIx_none]
  exact List.take_of_length_le (by rw [List.length_drop]; exact Nat.le_refl _)
/-- instead: the item in its place -/
def spInstead : Sp := fun vs H Q _ => ∃ (a : Addr) (ns : List Int) (at_ : Nat) (v : V) (F : Addr → Prop) (e : PyData) (c m : Nat), vs = [.ref a, .int at_, v] ∧ H a = some (.tup (ns.map V.int)) ∧ Bnd ns ∧ Dd F H v e ∧ Sz c m e ∧ at_ < ns.length ∧
  ∀ (v' : V) (e' : PyData) (H' : Hp), Evl.Ex H H' → Dd F H' v' e' → Sz (c + 21) (m + 1) e' → Q v' H'
theorem fk_instead (S : At K mg "_law_instead" sInstead) : Fk P w K mg base CX0 1 "_law_instead" ["some", "at", "item"] spInstead := by
  obtain ⟨f, fd, F, g⟩ := S.ex
  refine ⟨f, fd, F.ok scInstead (fun vs H Q E h => ?_) (fun cdv A outer s H vs Q E hr h => ?_), F.binds fun _ _ _ _ _ _ us hl => (match us, hl with | [_, _, _], _ => rfl), g, F.kp, fun_lk F⟩
  · obtain ⟨a, ns, z, v, F, e, c, m, rfl, _⟩ := h
    rfl
  · obtain ⟨a, ns, z, v, F, e, c, m, rfl, ea, bn, hd, hz, hlt, q⟩ := h
    have hl10 := bn.1
    refine ⟨_, pss_one (ps_ret (pe_op op_catA (pe_op op_catA (pe_slice sl_tupA (pv 0) po_none (po_some (pv 1))) (pe_tup (pa_cons (pv 2) pa_nil))) (pe_slice sl_tupA (pv 0) (po_some (pe_op op_add (pv 1) pe_int)) po_none))), ?_⟩
    have hk1 : HT.sIx (ns.map V.int).length (ns.map V.int).length (some (z : Int)) = z := by
      rw [HT.sIx_nat, List.length_map]
      omega
    refine ⟨_, rfl, _, rfl, _, rfl, a, _, rfl, SqT.of ea, fun h => ?_, fun _ p np => ?_⟩
    · rw [hk1, List.length_map] at h
      omega
    · rw [cut_eq, hk1]
      have x1 : Evl.Ex H (upd H p (.tup ((ns.map V.int).take z))) := Evl.Ex.new np
      have b1 : (upd H p (.tup ((ns.map V.int).take z))) p = some (.tup ((ns.map V.int).take z)) := upd_same
      generalize upd H p (.tup ((ns.map V.int).take z)) = H1 at x1 b1
      refine ⟨_, rfl, by show 1 ≤ sizeLine; decide, fun p2 np2 => ?_⟩
      have x2 : Evl.Ex H (upd H1 p2 (.tup [v])) := x1.trans (Evl.Ex.new np2)
      have b2 : (upd H1 p2 (.tup [v])) p = some (.tup ((ns.map V.int).take z)) := Evl.Ex.new np2 _ _ b1
      have b3 : (upd H1 p2 (.tup [v])) p2 = some (.tup [v]) := upd_same
      generalize upd H1 p2 (.tup [v]) = H2 at x2 b2 b3
      have fin : ∀ (p3 : Addr) (H3 : Hp), Evl.Ex H H3 → H3 p3 = some (.tup ((ns.map V.int).take z ++ [v])) → tSl (rSlA K) (tVar 0) (tPart (tOp (rI0 fun i j => .int (i + j)) (tVar 1) (tC (.int 1)))) tNoPart (L2.start ["some", "at", "item"] [.ref a, .int z, v]) H3 (fun y H4 => rCatA K (.ref p3) y H4 Q) := fun p3 H3 x3 e3 => by
        have hk2 : HT.sIx (ns.map V.int).length 0 (some ((z : Int) + 1)) = z + 1 := by
          rw [show (z : Int) + 1 = ((z + 1 : Nat) : Int) by omega, HT.sIx_nat, List.length_map]
          omega
        refine ⟨_, rfl, _, rfl, _, _, rfl, rfl, _, rfl, a, _, rfl, SqT.of (x3 _ _ ea), fun h => ?_, fun _ p4 np4 => ?_⟩
        · rw [hk2] at h
          omega
        · rw [cut_from, hk2]
          have x4 : Evl.Ex H (upd H3 p4 (.tup ((ns.map V.int).drop (z + 1)))) := x3.trans (Evl.Ex.new np4)
          have e4 : (upd H3 p4 (.tup ((ns.map V.int).drop (z + 1)))) p3 = some (.tup ((ns.map V.int).take z ++ [v])) := Evl.Ex.new np4 _ _ e3
          have e5 : (upd H3 p4 (.tup ((ns.map V.int).drop (z + 1)))) p4 = some (.tup ((ns.map V.int).drop (z + 1))) := upd_same
          generalize upd H3 p4 (.tup ((ns.map V.int).drop (z + 1))) = H4 at x4 e4 e5
          have dA : DdAll F H4 ((ns.map V.int).take z ++ [v]) ((ns.map PyData.int).take z ++ [e]) := dd_app (dd_take z (dd_ints ns)) (.cons (Dd.keep (ex_keep x4) hd) .nil)
          have dB : DdAll F H4 ((ns.map V.int).drop (z + 1)) ((ns.map PyData.int).drop (z + 1)) := dd_drop (z + 1) (dd_ints ns)
          have b0 := bn.sz
          have sub : ∀ es : List PyData, (∀ y ∈ es, y ∈ ns.map PyData.int) → es.length ≤ 10 → SzA 10 0 es := fun es h1 h2 => by
            have h := sza_of (ds := es) (n := 0) (m := 0) fun d hd => by
              obtain ⟨n, hn, rfl⟩ := List.mem_map.mp (h1 d hd)
              exact sz_int (lt250 (bn.2 n hn))
            exact h.mono (by omega) (Nat.le_refl _)
          have s1 : SzA 10 m ((ns.map PyData.int).take z) := (sub _ (fun y h => List.mem_of_mem_take h) (by rw [List.length_take, List.length_map]; omega)).mono (Nat.le_refl _) (Nat.zero_le _)
          have s2 : SzA 10 m ((ns.map PyData.int).drop (z + 1)) := (sub _ (fun y h => List.mem_of_mem_drop h) (by rw [List.length_drop, List.length_map]; omega)).mono (Nat.le_refl _) (Nat.zero_le _)
          have s3 : SzA (c + 11) m ((ns.map PyData.int).take z ++ [e]) := (sza_app s1 (sza_cons hz sza_nil)).mono (by omega) (Nat.le_refl _)
          refine ⟨p3, p4, _, _, rfl, rfl, SqT.of e4, SqT.of e5, ?_, fun h => ?_, fun _ h => ?_, fun _ _ p5 np5 => ?_⟩
          · rw [List.length_append, List.length_take, List.length_drop, List.length_map, List.length_singleton]
            exact Nat.le_of_lt (small1000 (by omega))
          · exact absurd h (by simp)
          · exact q _ _ _ x4 (.tup e4 dA) (s3.tuple.mono (by omega) (Nat.le_refl _))
          · exact q _ _ _ (x4.trans (Evl.Ex.new np5)) (.tup upd_same (DdAll.keep (new_keep np5) (dd_app dA dB))) ((sza_app s3 s2).tuple.mono (by omega) (Nat.le_refl _))
      refine ⟨p, p2, _, _, rfl, rfl, SqT.of b2, SqT.of b3, ?_, fun h => ?_, fun _ h => ?_, fun _ _ p3 np3 => ?_⟩
      · rw [List.length_take, List.length_map, List.length_singleton]
        exact Nat.le_of_lt (small1000 (by omega))
      · refine fin p2 H2 x2 ?_
        rw [h, List.nil_append]
        exact b3
      · cases h
      · exact fin p3 _ (x2.trans (Evl.Ex.new np3)) upd_same
def bc (b : Bool) : Nat := if b then 600 else 300
def bm (b : Bool) : Nat := if b then 20 else 10
theorem bc_ge (b : Bool) : 300 ≤ bc b := by cases b <;> decide
theorem bm_ge (b : Bool) : 10 ≤ bm b := by cases b <;> decide
/-- bending -/
def spBent (b : Bool) : Sp := fun vs H Q _ => ∃ (d l : Addr) (v : V) (deep : Int), vs = [.ref d, v, .int deep] ∧ Deck d l H ∧ BIn b H v ∧
  ∀ (v' : V) (e' : PyData) (H' : Hp), Dd (fun a => H a = none) H' v' e' → Sz (bc b) (bm b) e' → Deck d l H' → Kp d l H H' → Q v' H'
def spBentR : Bool → Sp
  | false => fun _ _ _ _ => False
  | true => spBent false
theorem BIn.dd {b : Bool} {H : Hp} {v : V} (h : BIn b H v) : ∃ e, (∀ F, Dd F H v e) ∧ ((∃ i, v = .int i ∧ e = .int i ∧ i.natAbs < 2 ^ 240) ∨ (∃ a ns, b = true ∧ v = .ref a ∧ e = .tuple (ns.map PyData.int) ∧ H a = some (.tup (ns.map V.int)) ∧ Bnd ns)) := by
  rcases h with ⟨i, rfl, h⟩ | ⟨hb, a, ns, rfl, ea, bn⟩
  · exact ⟨_, fun _ => .int i, .inl ⟨i, rfl, rfl, h⟩⟩
  · exact ⟨_, fun _ => .tup ea (dd_ints ns), .inr ⟨a, ns, hb, rfl, rfl, ea, bn⟩⟩
theorem fk_bentS (b : Bool) {n : Nat} (hn6 : 6 ≤ n) (S : At K mg "_law_bent" sBent) (T : Blt mg) (GD : Fk P w K mg base CX0 1 "_law_draw" ["deck", "many"] spDraw) (GP : Fk P w K mg base CX0 2 "_law_pick" ["deck", "some"] spPick)
    (GA : Fk P w K mg base CX0 5 "_law_any" ["deck", "deep"] (spAny 2)) (GI : Fk P w K mg base CX0 1 "_law_is_integer" ["thing"] spIsInt) (GN : Fk P w K mg base CX0 1 "_law_instead" ["some", "at", "item"] spInstead)
    (GR : Fk P w K mg base CX0 n "_law_bent" ["deck", "thing", "deep"] (spBentR b)) : Fk P w K mg base CX0 (n + 1) "_law_bent" ["deck", "thing", "deep"] (spBent b) := by
  obtain ⟨f, fd, F, g⟩ := S.ex
  refine ⟨f, fd, F.ok scBent (fun vs H Q E h => ?_) (fun cdv A outer s H vs Q E hr h => ?_), F.binds fun _ _ _ _ _ _ us hl => (match us, hl with | [_, _, _], _ => rfl), g, F.kp, fun_lk F⟩
  · obtain ⟨d, l, v, z, rfl, _⟩ := h
    rfl
  · obtain ⟨d, l, v, deep, rfl, D, hin, q⟩ := h
    have h1 : Room 1 (A.deeper (envOfC "_law_bent" (defScope sBent) s.heap.objs.size f cdv)) := hr.mono (by omega)
    have h2 : Room 2 (A.deeper (envOfC "_law_bent" (defScope sBent) s.heap.objs.size f cdv)) := hr.mono (by omega)
    have h5 : Room 5 (A.deeper (envOfC "_law_bent" (defScope sBent) s.heap.objs.size f cdv)) := hr.mono (by omega)
    refine ⟨_, Evl.pss_cut (ps_if (PW.pt (pw_or (pt_not (pt_val (pe_callB call_isi (by rfl) T.isinst (by decide +kernel) (pa_cons (pv 1) (pa_cons (pe_bltn (v := .ty "tuple") (by rfl) T.tuple (by decide +kernel) rfl) pa_nil)))))
        (pw_or (pt_cmpR (op_eqD hr.units) (pv 1) (pe_tup pa_nil) (nomark _)) (pw_or (pt_cmpR op_eq (pv 2) pe_int (nomark _)) (pw_or1 (pt_cmpR op_eq (pe_cl GD h1 (by rfl) pass0 (pa_cons (pv 0) (pa_cons pe_int pa_nil))) pe_int (nomark _)))))))
        (pss_cons (ps_set (i := 3) scBent.nd rfl (.inl rfl) (pe_cl GD h1 (by rfl) pass0 (pa_cons (pv 0) (pa_cons pe_int pa_nil))))
        (pss_cons (ps_if (pt_val (pe_cl GI h1 (by rfl) pass0 (pa_cons (pv 1) pa_nil))) (pss_one (ps_ret (pe_cl GP h2 (by rfl) pass0 (pa_cons (pv 0) (pa_cons (pe_lst (pa_cons pe_int (pa_cons (pe_un un_neg (pv 1)) (pa_cons (pe_op op_sub (pv 1) pe_int) (pa_cons (pe_op op_add (pv 1) pe_int)
          (pa_cons (pe_callTy call_bool1 (by rfl) T.bool (by decide +kernel) (pa_cons (pv 1) pa_nil)) (pa_cons (pe_callTy call_str_int (by rfl) T.str (by decide +kernel) (pa_cons (pv 1) pa_nil)) (pa_cons (pe_tup (pa_cons (pv 1) pa_nil)) (pa_cons (pe_lst (pa_cons (pv 1) pa_nil)) (pa_cons pe_non (pa_cons (pe_op op_add (pv 1) pe_int) pa_nil))))))))))) pa_nil))))) pss_nil)
        (pss_cons (ps_if (PW.pt (pw_or (pt_cmpR op_eq (pv 3) pe_int (nomark _)) (pw_or1 (pt_not (pt_val (pe_callB call_isi (by rfl) T.isinst (by decide +kernel) (pa_cons (pv 1) (pa_cons (pe_bltn (v := .ty "tuple") (by rfl) T.tuple (by decide +kernel) rfl) pa_nil))))))))
          (pss_one (ps_ret (pe_cl GA h5 (by rfl) pass0 (pa_cons (pv 0) (pa_cons pe_int pa_nil))))) pss_nil)
        (pss_cons (ps_if (pt_cmpR op_lt (pv 3) pe_int (nomark _)) (pss_one (ps_ret (pe_callTy call_list_of (by rfl) T.list (by decide +kernel) (pa_cons (pv 1) pa_nil)))) pss_nil)
        (pss_cons (ps_if (pt_cmpR op_lt (pv 3) pe_int (nomark _)) (pss_one (ps_ret (pe_op op_catA (pv 1) (pe_tup (pa_cons (pe_cl GP h2 (by rfl) pass0 (pa_cons (pv 0) (pa_cons (pe_lst (pa_cons (pe_tup pa_nil) (pa_cons pe_int (pa_cons pe_int (pa_cons (pe_tup (pa_cons pe_int pa_nil)) (pa_cons pe_non (pa_cons pe_bl pa_nil))))))) pa_nil))) pa_nil))))) pss_nil)
        (pss_cons (ps_if (pt_cmpR op_lt (pv 3) pe_int (nomark _)) (pss_one (ps_ret (pe_revT (pv 1)))) pss_nil)
        (pss_cons (ps_if (pt_cmpR op_lt (pv 3) pe_int (nomark _)) (pss_one (ps_ret (pe_op op_catA (pv 1) (pe_slice sl_tupA (pv 1) po_none (po_some pe_int))))) pss_nil)
        (pss_one (ps_ret (pe_ifExp (pt_cmpR op_lt (pv 3) pe_int (nomark _)) (pe_slice sl_tupA (pv 1) (po_some pe_int) po_none) (pe_tup (pa_cons (pv 1) pa_nil)))))))))))) pss_nil)
      (pss_cons (ps_set (i := 4) scBent.nd rfl (.inl rfl) (pe_cl GD h1 (by rfl) pass0 (pa_cons (pv 0) (pa_cons (pe_callB call_len_seq (by rfl) T.len PySem.boot_len (pa_cons (pv 1) pa_nil)) pa_nil))))
      (pss_one (ps_ret (pe_cl GN h1 (by rfl) pass0 (pa_cons (pv 1) (pa_cons (pv 4) (pa_cons (pe_cl GR hr (by rfl) pass0 (pa_cons (pv 0) (pa_cons (pe_ix ix_tup (pv 1) (pv 4) (fun _ _ => rfl)) (pa_cons (pe_op op_sub (pv 2) pe_int) pa_nil)))) pa_nil))))))), ?_⟩
    have offF : ∀ a, H a = none → a ≠ d ∧ a ≠ l := fun a h => D.off h
    rcases hin with ⟨i, rfl, hi⟩ | ⟨rfl, a, ns, rfl, ea, bn⟩
    · -- an integer
      have hb : i.natAbs < 2 ^ 250 := lt250 hi
      have hbig : ∀ j : Int, j.natAbs < 2 ^ 240 + 10 → Sz (bc b) (bm b) (.int j) := fun j hj => (sz_int (Nat.lt_of_lt_of_le hj (by decide))).mono (Nat.zero_le _) (Nat.zero_le _)
      refine ⟨fun _ _ => False, ?_, fun _ _ h => h.elim⟩
      refine ⟨_, rfl, _, _, _, _, _, rfl, .ty _, .base (.int i), kit_ty (show kitB "int" "tuple" = some false by decide +kernel), _, rfl, ?_⟩
      refine iteT (iteT ?_)
      refine ⟨_, rfl, d, l, 14, rfl, by decide, by decide, D, fun r H2 _ _ D2 k2 => ?_⟩
      refine ⟨_, rfl, .int i, fun _ => True, .int i, rfl, .int i, _, rfl, iteT ?_⟩
      refine ⟨_, rfl, _, rfl, i, rfl, _, rfl, i, 1, rfl, rfl, _, rfl, i, 1, rfl, rfl, _, rfl, .inl ⟨i, rfl, _, rfl, i, rfl, ?_, _, rfl, by show 1 ≤ sizeLine; decide, fun p np => ?_⟩⟩
      · exact log2_small (Nat.lt_of_lt_of_le hb (Nat.pow_le_pow_right (by decide) (by decide)))
      have nHp : H p = none := k2.back D2 np
      have D3 := D2.new (o := .tup [.int i]) np
      have k3 := k2.new (o := .tup [.int i]) np
      have e3 : (upd H2 p (.tup [.int i])) p = some (.tup [.int i]) := upd_same
      generalize upd H2 p (.tup [.int i]) = H3 at D3 k3 e3
      refine ⟨_, rfl, by show 1 ≤ sizeLine; decide, fun p2 np2 => ?_⟩
      have nHp2 : H p2 = none := k3.back D3 np2
      have D4 := D3.new (o := .lst [.int i]) np2
      have k4 := k3.new (o := .lst [.int i]) np2
      have e4 : (upd H3 p2 (.lst [.int i])) p = some (.tup [.int i]) := Evl.Ex.new np2 _ _ e3
      have e5 : (upd H3 p2 (.lst [.int i])) p2 = some (.lst [.int i]) := upd_same
      generalize upd H3 p2 (.lst [.int i]) = H4 at D4 k4 e4 e5
      refine ⟨_, rfl, i, 4, rfl, rfl, by show 10 ≤ sizeLine; decide, fun p3 np3 => ?_⟩
      have sI := sz_int hb
      have e6 := Evl.Ex.new (o := .lst [.int 0, .int (-i), .int (i - 1), .int (i + 1), .bl (i != 0), .str (toString i : String), .ref p, .ref p2, .non, .int (i + 4)]) np3 _ _ e4
      have e7 := Evl.Ex.new (o := .lst [.int 0, .int (-i), .int (i - 1), .int (i + 1), .bl (i != 0), .str (toString i : String), .ref p, .ref p2, .non, .int (i + 4)]) np3 _ _ e5
      refine ⟨d, l, p3, _, rfl, D4.new np3, upd_same, (D4.off np3).1, (D4.off np3).2, by show 0 < 10; decide, by show 10 ≤ 1000; decide, pick_dd (F := fun a => H a = none) (D4.new np3) (k4.new np3) offF ?_ q⟩
      refine all_cons ⟨_, .int _, hbig _ (by omega)⟩ (all_cons ⟨_, .int _, hbig _ (by omega)⟩ (all_cons ⟨_, .int _, hbig _ (by omega)⟩ (all_cons ⟨_, .int _, hbig _ (by omega)⟩ (all_cons ⟨_, .bl _, (sz_bool _).mono (Nat.le_trans (by decide) (bc_ge b)) (Nat.le_trans (by decide) (bm_ge b))⟩
        (all_cons ⟨_, .str _, (sz_text hb).mono (Nat.le_trans (by decide) (bc_ge b)) (Nat.le_trans (by decide) (bm_ge b))⟩ (all_cons ⟨_, .tup e6 (.cons (.int i) .nil), (sza_cons sI sza_nil).tuple.mono (Nat.le_trans (by decide) (bc_ge b)) (Nat.le_trans (by decide) (bm_ge b))⟩ (all_cons ⟨_, .lst nHp2 e7 (.cons (.int i) .nil), (sza_cons sI sza_nil).list.mono (Nat.le_trans (by decide) (bc_ge b)) (Nat.le_trans (by decide) (bm_ge b))⟩
        (all_cons ⟨_, .non, sz_none.mono (Nat.le_trans (by decide) (bc_ge b)) (Nat.le_trans (by decide) (bm_ge b))⟩ (all_cons ⟨_, .int _, hbig _ (by omega)⟩ all_nil)))))))))
    · -- a tuple of integers
      have hl10 := bn.1
      have szI : ∀ ms : List Int, ms.length ≤ 20 → (∀ m ∈ ms, m.natAbs < 2 ^ 240) → SzA 20 0 (ms.map PyData.int) := fun ms h1 h2 => by
        have h := sza_of (ds := ms.map PyData.int) (n := 0) (m := 0) fun y hy => by
          obtain ⟨n, hn, rfl⟩ := List.mem_map.mp hy
          exact sz_int (lt250 (h2 n hn))
        exact h.mono (by rw [List.length_map]; omega) (Nat.le_refl _)
      have fin : ∀ (ms : List Int) (p : Addr) (H' : Hp), H' p = some (.tup (ms.map V.int)) → ms.length ≤ 20 → (∀ m ∈ ms, m.natAbs < 2 ^ 240) → Deck d l H' → Kp d l H H' → Q (.ref p) H' := fun ms p H' ep h1 h2 D' k' =>
        q _ _ H' (.tup ep (dd_ints ms)) ((szI ms h1 h2).tuple.mono (by decide) (by decide)) D' k'
      have atK : ∀ {H' : Hp}, Kp d l H H' → H' a = some (.tup (ns.map V.int)) := fun {H'} k => by
        obtain ⟨ns', m, z, _, e1, e2⟩ := D.ex
        exact k a _ ea (ne_of ea e1 (by intro z; cases z)) (ne_of ea e2 (by intro z; cases z))
      have go : ∀ (Q' : Bool → Hp → Prop), (∀ H1, Deck d l H1 → Kp d l H H1 → Q' true H1) → (∀ H1, ns ≠ [] → Deck d l H1 → Kp d l H H1 → Q' false H1) →
          tOr (tNot (tB (tCB (rIsi K) (tCons (tVar 1) (tCons (tC (.ty "tuple")) tNil))))) (tOr (tTest (tOp (rEqD K) (tVar 1) (tTup tNil))) (tOr (tTest (tOp rEq (tVar 2) (tC (.int 0)))) (tTest (tOp rEq (tCall spDraw [] E0 (tCons (tVar 0) (tCons (tC (.int 5)) tNil))) (tC (.int 0))))))
            (L2.start ["deck", "thing", "deep", "way", "at"] [.ref d, .ref a, .int deep]) H Q' := fun Q' qt qf => by
        refine ⟨_, rfl, _, _, _, _, _, rfl, .ty _, .base (.tup ea), kit_ty (show kitB "tuple" "tuple" = some true by decide +kernel), _, rfl, iteF ?_⟩
        refine ⟨_, rfl, Nat.zero_le _, fun p np => ?_⟩
        have k1 := (Kp.refl (d := d) (l := l) H).new (o := .tup []) np
        have D1 := D.new (o := .tup []) np
        refine ⟨_, _, .tup (SqT.of (atK k1)) (dp_ints ns), .tup (SqT.of upd_same) (dp_ints []), shaped_tup ns, shaped_tup [], ?_⟩
        generalize upd H p (.tup []) = H1 at k1 D1
        rw [eqv_ints]
        refine ⟨_, rfl, ite2 (fun _ => by exact qt H1 D1 k1) (fun hne => ?_)⟩
        have hne : ns ≠ [] := fun z => hne (decide_eq_true z)
        refine ⟨_, rfl, rfl, _, rfl, ite2 (fun _ => by exact qt H1 D1 k1) (fun _ => ?_)⟩
        refine ⟨_, rfl, d, l, 5, rfl, by decide, by decide, D1, fun r H2 _ _ D2 k2 => ⟨rfl, _, rfl, ?_⟩⟩
        cases decide (V.int r = V.int 0) with
        | true => exact qt H2 D2 (k1.trans k2)
        | false => exact qf H2 hne D2 (k1.trans k2)
      refine ⟨fun σ' H' => ns ≠ [] ∧ σ' = [some (.ref d), some (.ref a), some (.int deep), none, none] ∧ Deck d l H' ∧ Kp d l H H', go _ (fun H1 D1 k1 => iteT ?_) (fun H1 hne D1 k1 => iteF ⟨hne, rfl, D1, k1⟩), ?_⟩
      · refine ⟨_, rfl, d, l, 14, rfl, by decide, by decide, D1, fun r H2 _ _ D2 k2 => ?_⟩
        have k2 := k1.trans k2
        have e2 := atK k2
        refine ⟨_, rfl, .ref a, fun _ => True, .tuple (ns.map .int), rfl, .tup e2 (dd_ints ns), _, rfl, iteF ?_⟩
        -- way == 0
        refine ⟨_, rfl, rfl, _, rfl, ite2 (fun h => ?_) (fun _ => ?_)⟩
        · refine iteT ⟨_, rfl, d, l, 2, rfl, by decide, D2, fun v e H' hv zv D' k' => ?_⟩
          exact q v e H' (hv.mono fun x hx => k2.back D2 hx) (zv.mono (by decide) (by decide)) D' (k2.trans k')
        refine ⟨_, rfl, _, _, _, _, _, rfl, .ty _, .base (.tup e2), kit_ty (show kitB "tuple" "tuple" = some true by decide +kernel), _, rfl, iteF ?_⟩
        -- way < 4
        refine ⟨_, rfl, r, 4, rfl, rfl, _, rfl, ite2 (fun _ => ?_) (fun _ => ?_)⟩
        · refine ⟨_, rfl, a, _, rfl, .inr (SqT.of e2), fun p np => ?_⟩
          exact q _ _ _ (.lst (k2.back D2 np) upd_same (dd_ints ns)) ((szI ns (by omega) bn.2).list.mono (by decide) (by decide)) (D2.new np) (k2.new np)
        -- way < 6
        refine ⟨_, rfl, r, 6, rfl, rfl, _, rfl, ite2 (fun _ => ?_) (fun _ => ?_)⟩
        · refine ⟨_, rfl, _, rfl, Nat.zero_le _, fun p np => ?_⟩
          have D3 := D2.new (o := .tup []) np
          have k3 := k2.new (o := .tup []) np
          have e3 : (upd H2 p (.tup [])) p = some (.tup []) := upd_same
          generalize upd H2 p (.tup []) = H3 at D3 k3 e3
          refine ⟨by show 1 ≤ sizeLine; decide, fun p2 np2 => ?_⟩
          have D4 := D3.new (o := .tup [.int 0]) np2
          have k4 := k3.new (o := .tup [.int 0]) np2
          have e4 : (upd H3 p2 (.tup [.int 0])) p = some (.tup []) := Evl.Ex.new np2 _ _ e3
          have e5 : (upd H3 p2 (.tup [.int 0])) p2 = some (.tup [.int 0]) := upd_same
          generalize upd H3 p2 (.tup [.int 0]) = H4 at D4 k4 e4 e5
          refine ⟨by show 6 ≤ sizeLine; decide, fun p3 np3 => ?_⟩
          have e6 := Evl.Ex.new (o := .lst [.ref p, .int 0, .int 1, .ref p2, .non, .bl true]) np3 _ _ e4
          have e7 := Evl.Ex.new (o := .lst [.ref p, .int 0, .int 1, .ref p2, .non, .bl true]) np3 _ _ e5
          refine ⟨d, l, p3, _, rfl, D4.new np3, upd_same, (D4.off np3).1, (D4.off np3).2, by show 0 < 6; decide, by show 6 ≤ 1000; decide, fun j v H5 ev D5 k5 => ?_⟩
          have k5 := (k4.new np3).trans k5
          have hL : ∀ v ∈ [V.ref p, .int 0, .int 1, .ref p2, .non, .bl true], ∃ e, Dd (fun a => H a = none) H5 v e ∧ Sz 10 2 e := by
            have e8 : H5 p = some (.tup []) := by
              obtain ⟨ns', m, z, _, f1, f2⟩ := (D4.new np3).ex
              exact ‹Kp d l _ H5› p _ e6 (ne_of e6 f1 (by intro z; cases z)) (ne_of e6 f2 (by intro z; cases z))
            have e9 : H5 p2 = some (.tup [.int 0]) := by
              obtain ⟨ns', m, z, _, f1, f2⟩ := (D4.new np3).ex
              exact ‹Kp d l _ H5› p2 _ e7 (ne_of e7 f1 (by intro z; cases z)) (ne_of e7 f2 (by intro z; cases z))
            exact all_cons ⟨_, .tup e8 .nil, (sza_nil (m := 0)).tuple.mono (by decide) (by decide)⟩ (all_cons ⟨_, .int 0, (sz_int (by decide)).mono (by decide) (by decide)⟩ (all_cons ⟨_, .int 1, (sz_int (by decide)).mono (by decide) (by decide)⟩
              (all_cons ⟨_, .tup e9 (.cons (.int 0) .nil), (sza_cons (sz_int (by decide)) sza_nil).tuple.mono (by decide) (by decide)⟩ (all_cons ⟨_, .non, sz_none.mono (by decide) (by decide)⟩ (all_cons ⟨_, .bl _, (sz_bool _).mono (by decide) (by decide)⟩ all_nil)))))
          obtain ⟨e, hv, zv⟩ := hL v (List.mem_of_getElem? ev)
          refine ⟨by show 1 ≤ sizeLine; decide, fun p4 np4 => ?_⟩
          have D6 := D5.new (o := .tup [v]) np4
          have k6 := k5.new (o := .tup [v]) np4
          have hv6 := Dd.keep (new_keep (o := .tup [v]) np4) hv
          have e10 : (upd H5 p4 (.tup [v])) p4 = some (.tup [v]) := upd_same
          generalize upd H5 p4 (.tup [v]) = H6 at D6 k6 hv6 e10
          have sv := sza_cons zv sza_nil
          refine ⟨a, p4, _, _, rfl, rfl, SqT.of (atK k6), SqT.of e10, ?_, fun h => ?_, fun _ h => ?_, fun _ _ p5 np5 => ?_⟩
          · rw [List.length_map, List.length_singleton]
            exact Nat.le_of_lt (small1000 (by omega))
          · exact q _ _ _ (.tup e10 (.cons hv6 .nil)) (sv.tuple.mono (by decide) (by decide)) D6 k6
          · cases h
          · refine q _ _ _ (.tup upd_same (dd_app (dd_ints ns) (.cons (Dd.keep (new_keep np5) hv6) .nil))) ((sza_app ((szI ns (by omega) bn.2).mono (Nat.le_refl _) (by decide : 0 ≤ 2)) sv).tuple.mono (by decide) (by decide)) (D6.new np5) (k6.new np5)
        -- way < 9
        refine ⟨_, rfl, r, 9, rfl, rfl, _, rfl, ite2 (fun _ => ?_) (fun _ => ?_)⟩
        · refine ⟨_, rfl, a, _, rfl, SqT.of e2, fun p np => ?_⟩
          refine fin ns.reverse p _ (by rw [upd_same, List.map_reverse]) (by rw [List.length_reverse]; omega) (fun m hm => bn.2 m (List.mem_reverse.mp hm)) (D2.new np) (k2.new np)
        -- way < 11
        refine ⟨_, rfl, r, 11, rfl, rfl, _, rfl, ite2 (fun _ => ?_) (fun _ => ?_)⟩
        · have cat : ∀ (ms : List Int) (p : Addr) (H3 : Hp), H3 p = some (.tup (ms.map V.int)) → ms.length ≤ 10 → (∀ m ∈ ms, m.natAbs < 2 ^ 240) → Deck d l H3 → Kp d l H H3 → rCatA K (.ref a) (.ref p) H3 Q := fun ms p H3 ep hm1 hm2 D3 k3 => by
            refine ⟨a, p, _, _, rfl, rfl, SqT.of (atK k3), SqT.of ep, ?_, fun _ => ?_, fun _ _ => ?_, fun _ _ p5 np5 => ?_⟩
            · rw [List.length_map, List.length_map]
              exact Nat.le_of_lt (small1000 (by omega))
            · exact fin ms p H3 ep (by omega) hm2 D3 k3
            · exact fin ns a H3 (atK k3) (by omega) bn.2 D3 k3
            · exact fin (ns ++ ms) p5 _ (by rw [upd_same, List.map_append]) (by rw [List.length_append]; omega) (fun m hm => (List.mem_append.mp hm).elim (bn.2 m) (hm2 m)) (D3.new np5) (k3.new np5)
          refine ⟨_, rfl, _, rfl, 1, rfl, a, _, rfl, SqT.of e2, fun _ => ?_, fun _ p np => ?_⟩
          · exact cat ns a H2 e2 hl10 bn.2 D2 k2
          · refine cat (ns.take (HT.sIx (ns.map V.int).length (ns.map V.int).length (some 1))) p _ (by rw [upd_same, cut_eq, List.map_take]) (by rw [List.length_take]; omega) (fun m hm => bn.2 m (List.mem_of_mem_take hm)) (D2.new np) (k2.new np)
        -- way < 13
        refine ⟨_, rfl, r, 13, rfl, rfl, _, rfl, ite2 (fun _ => ?_) (fun _ => ?_)⟩
        · refine ⟨_, rfl, 1, rfl, a, _, rfl, SqT.of e2, fun _ => ?_, fun _ p np => ?_⟩
          · exact fin ns a H2 e2 (by omega) bn.2 D2 k2
          · refine fin (ns.drop (HT.sIx (ns.map V.int).length 0 (some 1))) p _ (by rw [upd_same, cut_from, List.map_drop]) (by rw [List.length_drop]; omega) (fun m hm => bn.2 m (List.mem_of_mem_drop hm)) (D2.new np) (k2.new np)
        · refine ⟨_, rfl, by show 1 ≤ sizeLine; decide, fun p np => ?_⟩
          exact q _ _ _ (.tup upd_same (.cons (.tup (atK (k2.new np)) (dd_ints ns)) .nil)) ((sza_cons ((szI ns (by omega) bn.2).tuple) sza_nil).tuple.mono (by decide) (by decide)) (D2.new np) (k2.new np)
      · rintro σ' H1 ⟨hne, rfl, D1, k1⟩
        have hpos : 0 < ns.length := by
          cases ns with
          | nil => exact absurd rfl hne
          | cons _ _ => exact Nat.succ_pos _
        refine ⟨_, rfl, _, rfl, a, _, rfl, .inr (SqT.of (atK k1)), d, l, _, rfl, by rw [List.length_map]; omega, lt18 (by rw [List.length_map]; omega), D1, fun r H2 r0 r1 D2 k2 => ?_⟩
        have k2 := k1.trans k2
        rw [List.length_map] at r1
        have hr : r.toNat < ns.length := by omega
        refine ⟨_, rfl, _, rfl, _, rfl, _, rfl, _, rfl, a, _, r, .int ns[r.toNat], rfl, rfl, SqT.of (atK k2), ?_, _, rfl, deep, 1, rfl, rfl, ?_⟩
        · exact at_of (j := r.toNat) (by omega) (by rw [List.getElem?_map, List.getElem?_eq_getElem hr] <;> rfl)
        refine ⟨d, l, _, _, rfl, D2, .inl ⟨_, rfl, bn.2 _ (List.getElem_mem hr)⟩, fun v e H3 hv zv D3 k3 => ?_⟩
        have k3 := k2.trans k3
        refine ⟨a, ns, r.toNat, v, _, e, _, _, by rw [Int.toNat_of_nonneg r0] <;> rfl, atK k3, bn, hv, zv, hr, fun v' e' H' x' hv' zv' => ?_⟩
        exact q v' e' H' (hv'.mono fun y hy => k2.back D2 hy) (zv'.mono (by decide) (by decide)) (D3.ex' x') (k3.trans (Kp.of x'))
theorem fk_bent (b : Bool) (S : At K mg "_law_bent" sBent) (T : Blt mg) (GD : Fk P w K mg base CX0 1 "_law_draw" ["deck", "many"] spDraw) (GP : Fk P w K mg base CX0 2 "_law_pick" ["deck", "some"] spPick)
    (GA : Fk P w K mg base CX0 5 "_law_any" ["deck", "deep"] (spAny 2)) (GI : Fk P w K mg base CX0 1 "_law_is_integer" ["thing"] spIsInt) (GN : Fk P w K mg base CX0 1 "_law_instead" ["some", "at", "item"] spInstead) :
    Fk P w K mg base CX0 8 "_law_bent" ["deck", "thing", "deep"] (spBent b) := by
  have g0 : Fk P w K mg base CX0 7 "_law_bent" ["deck", "thing", "deep"] (spBent false) :=
    fk_bentS false (Nat.le_refl 6) S T GD GP GA GI GN (fk_none S fun f fd F => F.binds fun _ _ _ _ _ _ us hl => (match us, hl with | [_, _, _], _ => rfl))
  cases b with
  | false => exact g0.mono (by decide)
  | true => exact fk_bentS true (by decide : 6 ≤ 7) S T GD GP GA GI GN g0
end
end Ey
namespace Ey
open PySem PySem.Spec PyProof.Rows L2
/-! ### lowest terms: the program's and the law's places -/
abbrev sRed : Stmt := topS 17
abbrev sLPlace : Stmt := topS 31
theorem scRed : FnScope ["triple", "a", "b", "c", "divisor"] ["triple"] (defScope sRed) := ⟨rfl, rfl, rfl, by decide +kernel, rfl, by decide +kernel, by decide +kernel⟩
theorem scLPlace : FnScope ["x", "y", "w"] ["x", "y", "w"] (defScope sLPlace) := ⟨rfl, rfl, rfl, by decide +kernel, rfl, by decide +kernel, by decide +kernel⟩
theorem gl_le {ns : List Int} {x : Int} (hx : x ∈ ns) (h0 : x ≠ 0) : 0 < gl ns ∧ gl ns ≤ x.natAbs := by
  have hd := gl_dvd x hx
  have hp : 0 < x.natAbs := Int.natAbs_pos.mpr h0
  exact ⟨Nat.pos_of_dvd_of_pos hd hp, Nat.le_of_dvd hp hd⟩
theorem low3 (x y z : Int) : lowest [x, y, z] = [x / (gl [x, y, z] : Nat), y / (gl [x, y, z] : Nat), z / (gl [x, y, z] : Nat)] := rfl
theorem gl_neg3 (x y z : Int) : gl [-x, -y, -z] = gl [x, y, z] := by rw [gl3, gl3, Int.natAbs_neg, Int.natAbs_neg, Int.natAbs_neg]
theorem dvd_gl {ns : List Int} {x : Int} (h : x ∈ ns) : ((gl ns : Nat) : Int) ∣ x := Int.ofNat_dvd_left.mpr (gl_dvd x h)
theorem low_neg3 (x y z : Int) : lowest [-x, -y, -z] = [-(x / (gl [x, y, z] : Nat)), -(y / (gl [x, y, z] : Nat)), -(z / (gl [x, y, z] : Nat))] := by
  rw [low3, gl_neg3, Int.neg_ediv_of_dvd (dvd_gl (by simp)), Int.neg_ediv_of_dvd (dvd_gl (by simp)), Int.neg_ediv_of_dvd (dvd_gl (by simp))]
/-- the place with the coordinates x / w and y / w -/
def placeOf (x y w : Int) : List Int := lowest (if 0 < w then [x, y, w] else [-x, -y, -w])
theorem placeOf_pos {x y w : Int} (h : 0 < w) : placeOf x y w = lowest [x, y, w] := by unfold placeOf; rw [if_pos h]
theorem placeOf_neg {x y w : Int} (h : ¬ 0 < w) : placeOf x y w = lowest [-x, -y, -w] := by unfold placeOf; rw [if_neg h]
theorem sign_div {x y w : Int} (h0 : w ≠ 0) : (w / (gl [x, y, w] : Nat) < 0) = (w < 0) := by
  obtain ⟨g0, g1⟩ := gl_le (ns := [x, y, w]) (x := w) (by simp) h0
  have hd : ((gl [x, y, w] : Nat) : Int) ∣ w := dvd_gl (by simp)
  obtain ⟨k, hk⟩ := hd
  have hg : (0 : Int) < ((gl [x, y, w] : Nat) : Int) := by omega
  generalize ((gl [x, y, w] : Nat) : Int) = g at hk hg
  subst hk
  rw [Int.mul_ediv_cancel_left _ (by omega)]
  refine propext ⟨fun h => Int.mul_neg_of_pos_of_neg hg h, fun h => ?_⟩
  exact Decidable.byContradiction fun z => absurd (Int.mul_nonneg (Int.le_of_lt hg) (by omega : 0 ≤ k)) (by omega)
theorem len3 {n : Nat} {x y z : Int} (h : n = 3) : n = ([x, y, z].map V.int).length := h
section
variable {P : Program} {w : World} {K : PySem.W.Frag} {mg : Str → Option Value} {base : Heap}
def spRed : Sp := fun vs H Q _ => ∃ (t : Addr) (x y z : Int), vs = [.ref t] ∧ H t = some (.tup ([x, y, z].map V.int)) ∧ 0 < gl [x, y, z] ∧ gl [x, y, z] < 2 ^ 2100 ∧
  ∀ p H', H p = none → Evl.Ex H H' → H' p = some (.tup ((lowest [x, y, z]).map V.int)) → Q (.ref p) H'
theorem fk_red (S : At K mg "reduced" sRed) (gg : mg "gcd" = some (.builtin "math.gcd")) : Fk P w K mg base CX0 1 "reduced" ["triple"] spRed := by
  obtain ⟨f, fd, F, g⟩ := S.ex
  refine ⟨f, fd, F.ok scRed (fun vs H Q E h => ?_) (fun cdv A outer s H vs Q E hr h => ?_), F.binds fun _ _ _ _ _ _ us hl => (match us, hl with | [_], _ => rfl), g, F.kp, fun_lk F⟩
  · obtain ⟨t, x, y, z, rfl, _⟩ := h
    rfl
  · obtain ⟨t, x, y, z, rfl, et, g0, g1, q⟩ := h
    refine ⟨_, pss_cons (ps_asg (pv 0) (pg_tup (by rfl) (pgs_cons (pg_name (i := 1) scRed.nd rfl (.inl rfl)) (pgs_cons (pg_name (i := 2) scRed.nd rfl (.inl rfl)) (pgs_cons (pg_name (i := 3) scRed.nd rfl (.inl rfl)) pgs_nil)))))
      (pss_cons (ps_set (i := 4) scRed.nd rfl (.inl rfl) (pe_callBfun cr_gcd3 (by rfl) gg (pa_cons (pv 1) (pa_cons (pv 2) (pa_cons (pv 3) pa_nil)))))
      (pss_one (ps_ret (pe_tup (pa_cons (pe_op op_fdivW (pv 1) (pv 4)) (pa_cons (pe_op op_fdivW (pv 2) (pv 4)) (pa_cons (pe_op op_fdivW (pv 3) (pv 4)) pa_nil))))))), ?_⟩
    refine ⟨_, rfl, t, _, rfl, SqT.of et, rfl, _, _, rfl, _, _, rfl, _, _, rfl, rfl, _, rfl, _, rfl, _, rfl, x, y, z, rfl, ?_⟩
    rw [← gl3]
    have hw : CDivW 0 ((gl [x, y, z] : Nat) : Int) := wide_div (by omega) (show (((gl [x, y, z] : Nat) : Int)).natAbs < 2 ^ 2100 by omega) (by decide) (by decide)
    refine ⟨_, rfl, _, rfl, x, _, rfl, rfl, hw, _, rfl, _, rfl, y, _, rfl, rfl, hw, _, rfl, _, rfl, z, _, rfl, rfl, hw, by show 3 ≤ sizeLine; decide, fun p np => ?_⟩
    exact q p _ np (Evl.Ex.new np) upd_same
def spLPlace : Sp := fun vs H Q _ => ∃ (x y w : Int), vs = [.int x, .int y, .int w] ∧ w ≠ 0 ∧ w.natAbs < 2 ^ 2100 ∧
  ∀ p H', H p = none → Evl.Ex H H' → H' p = some (.tup ((placeOf x y w).map V.int)) → Q (.ref p) H'
theorem fk_lPlace (S : At K mg "_law_place" sLPlace) (GL : Fk P w K mg base CX0 2 "_law_least" ["row"] (spLeast K)) : Fk P w K mg base CX0 3 "_law_place" ["x", "y", "w"] spLPlace := by
  obtain ⟨f, fd, F, g⟩ := S.ex
  refine ⟨f, fd, F.ok scLPlace (fun vs H Q E h => ?_) (fun cdv A outer s H vs Q E hr h => ?_), F.binds fun _ _ _ _ _ _ us hl => (match us, hl with | [_, _, _], _ => rfl), g, F.kp, fun_lk F⟩
  · obtain ⟨x, y, z, rfl, _⟩ := h
    rfl
  · obtain ⟨x, y, z, rfl, h0, h1, q⟩ := h
    refine ⟨_, pss_one (ps_ret (pe_cl GL hr (by rfl) pass0 (pa_cons (pe_ifExp (pt_cmpR op_gt (pv 2) pe_int (nomark _)) (pe_tup (pa_cons (pv 0) (pa_cons (pv 1) (pa_cons (pv 2) pa_nil)))) (pe_tup (pa_cons (pe_un un_neg (pv 0)) (pa_cons (pe_un un_neg (pv 1)) (pa_cons (pe_un un_neg (pv 2)) pa_nil))))) pa_nil))), ?_⟩
    have fin : ∀ (a b c : Int) (H1 : Hp) (p : Addr), [a, b, c] = (if 0 < z then [x, y, z] else [-x, -y, -z]) → c ≠ 0 → c.natAbs = z.natAbs → H1 p = none → Evl.Ex H H1 → spLeast K [.ref p] (upd H1 p (.tup ([a, b, c].map V.int))) Q E :=
      fun a b c H1 p e0 hc hn np x1 => by
        obtain ⟨g0, g1⟩ := gl_le (ns := [a, b, c]) (x := c) (by simp) hc
        refine ⟨p, [a, b, c], rfl, SqT.of upd_same, (by show 3 ≤ 100; decide), g0, by omega, fun p2 H2 n2 x2 e2 => ?_⟩
        refine q p2 H2 (Evl.fresh_back (x1.trans (Evl.Ex.new np)) n2) ((x1.trans (Evl.Ex.new np)).trans x2) ?_
        rw [show placeOf x y z = lowest [a, b, c] by unfold placeOf; rw [e0]]
        exact e2
    refine ⟨_, rfl, z, 0, rfl, rfl, _, rfl, ite2 (fun hz => ?_) (fun hz => ?_)⟩
    · have hz : 0 < z := of_decide_eq_true hz
      refine ⟨_, rfl, _, rfl, _, rfl, by show 3 ≤ sizeLine; decide, fun p np => ?_⟩
      exact fin x y z H p (by rw [if_pos hz]) h0 rfl np (Evl.Ex.refl H)
    · have hz : ¬ 0 < z := fun h => hz (decide_eq_true h)
      refine ⟨_, rfl, x, rfl, _, rfl, y, rfl, _, rfl, z, rfl, by show 3 ≤ sizeLine; decide, fun p np => ?_⟩
      exact fin (-x) (-y) (-z) H p (by rw [if_neg hz]) (by omega) (by omega) np (Evl.Ex.refl H)
end
end Ey
namespace Ey
open PySem PySem.Spec PyProof.Rows L2
/-! ### place(x, y, w) -/
abbrev sPlace : Stmt := topS 11
theorem scPlace : FnScope ["x", "y", "w", "thing"] ["x", "y", "w"] (defScope sPlace) := ⟨rfl, rfl, rfl, by decide +kernel, rfl, by decide +kernel, by decide +kernel⟩
/-- coordinates that are such -/
def Xyw (ex ey ew : PyData) : Prop := ∃ x y w : Int, ex = .int x ∧ ey = .int y ∧ ew = .int w ∧ w ≠ 0
def spPlace (C : Addr) : Sp := fun vs H Q E => ∃ (vx vy vw : V) (F : Addr → Prop) (ex ey ew : PyData), vs = [vx, vy, vw] ∧ Dd F H vx ex ∧ Dd F H vy ey ∧ Dd F H vw ew ∧ ex.bulk ≤ 2000 ∧ ey.bulk ≤ 2000 ∧ ew.bulk ≤ 2000 ∧
  (∀ x y w : Int, ex = .int x → ey = .int y → ew = .int w → w ≠ 0 → w.natAbs < 2 ^ 2100 ∧ ∀ p H', H p = none → Evl.Ex H H' → H' p = some (.tup ((placeOf x y w).map V.int)) → Q (.ref p) H') ∧
  (¬ Xyw ex ey ew → ∀ p d H', H p = none → H d = none → Evl.Ex H H' → H' p = some (.tup [vx, vy, vw]) → H' d = some (.xd [(("thing" : Str), .ref p)]) → E (.ref C) (some d) H')
theorem isInts3_xyw {ex ey ew : PyData} (h : isInts 3 (.tuple [ex, ey, ew]) = true) : ∃ x y w : Int, ex = .int x ∧ ey = .int y ∧ ew = .int w := by
  obtain ⟨x, y, w, e⟩ := isInts3 h
  cases e
  exact ⟨x, y, w, rfl, rfl, rfl⟩
theorem xyw_not {ex ey ew : PyData} (h : ¬ isInts 3 (.tuple [ex, ey, ew]) = true) : ¬ Xyw ex ey ew := by
  rintro ⟨x, y, w, rfl, rfl, rfl, _⟩
  exact h rfl
theorem xyw_zero {ex ey : PyData} : ¬ Xyw ex ey (.int 0) := by
  rintro ⟨x, y, w, _, _, e, h⟩
  cases e
  exact h rfl
theorem dd_three {F : Addr → Prop} {H : Hp} {a b c : V} {ea eb ec : PyData} (ha : Dd F H a ea) (hb : Dd F H b eb) (hc : Dd F H c ec) : DdAll F H [a, b, c] [ea, eb, ec] := .cons ha (.cons hb (.cons hc .nil))
theorem sz_three {c m : Nat} {ea eb ec : PyData} (za : Sz c m ea) (zb : Sz c m eb) (zc : Sz c m ec) : Sz (3 * c + 3) (m + 1) (.tuple [ea, eb, ec]) :=
  ((sza_cons za (sza_cons zb (sza_cons zc sza_nil))).mono (by omega) (Nat.le_refl _)).tuple
theorem bulk_three {ea eb ec : PyData} (za : ea.bulk ≤ 2000) (zb : eb.bulk ≤ 2000) (zc : ec.bulk ≤ 2000) : (PyData.tuple [ea, eb, ec]).bulk ≤ 7000 := by
  simp only [PyData.bulk, PyData.bulkAll]
  omega
theorem dd_int {F : Addr → Prop} {H : Hp} {v : V} {i : Int} (h : Dd F H v (.int i)) : v = .int i := by
  cases h
  rfl
section
variable {P : Program} {w : World} {K : PySem.W.Frag} {mg : Str → Option Value} {base : Heap}
theorem fk_place {C B fI : Addr} (S : At K mg "place" sPlace) (X : ErrTxt P K mg "BadPlace" "thing" C B fI) (GT : Fk P w K mg base CX0 2 "is_tuple_of_integers" ["thing", "many"] spIsTupB) (GR : Fk P w K mg base CX0 1 "reduced" ["triple"] spRed) :
    Fk P w K mg base (L2.CX P w) 3 "place" ["x", "y", "w"] (spPlace C) := by
  obtain ⟨f, fd, F, g⟩ := S.ex
  refine ⟨f, fd, F.okX scPlace (fun vs H Q E h => ?_) (fun cdv A outer s H vs Q E hr h => ?_), F.binds fun _ _ _ _ _ _ us hl => (match us, hl with | [_, _, _], _ => rfl), g, F.kp, fun_lk F⟩
  · obtain ⟨vx, vy, vw, G, ex, ey, ew, rfl, _⟩ := h
    rfl
  · obtain ⟨vx, vy, vw, G, ex, ey, ew, rfl, hx, hy, hw, zx, zy, zw, qa, qb⟩ := h
    have h1 : Room 1 (A.deeper (envOfC "place" (defScope sPlace) s.heap.objs.size f cdv)) := hr.mono (by decide)
    refine ⟨_, pss_cons (ps_set (i := 3) scPlace.nd rfl (.inl rfl) (pe_tup (pa_cons (pv 0) (pa_cons (pv 1) (pa_cons (pv 2) pa_nil)))))
      (pss_cons (ps_if (PW.pt (pw_or (pt_not (pt_val (pe_cl GT hr (by rfl) pass0 (pa_cons (pv 3) (pa_cons pe_int pa_nil))))) (pw_or1 (pt_cmpR op_eq (pv 2) pe_int (nomark _))))) (pss_one (ps_raiseEr rfl X h1 (takes_of rfl rfl rfl rfl) (pa_cons (pv 3) pa_nil) (by rfl))) pss_nil)
      (pss_cons (ps_asg (pe_cl GR h1 (by rfl) pass0 (pa_cons (pv 3) pa_nil)) (pg_tup (by rfl) (pgs_cons (pg_name (i := 0) scPlace.nd rfl (.inl rfl)) (pgs_cons (pg_name (i := 1) scPlace.nd rfl (.inl rfl)) (pgs_cons (pg_name (i := 2) scPlace.nd rfl (.inl rfl)) pgs_nil)))))
      (pss_one (ps_ret (pe_ifExp (pt_cmpR op_lt (pv 2) pe_int (nomark _)) (pe_tup (pa_cons (pe_un un_neg (pv 0)) (pa_cons (pe_un un_neg (pv 1)) (pa_cons (pe_un un_neg (pv 2)) pa_nil)))) (pe_tup (pa_cons (pv 0) (pa_cons (pv 1) (pa_cons (pv 2) pa_nil))))))))), ?_⟩
    refine ⟨_, rfl, _, rfl, _, rfl, by show 3 ≤ sizeLine; decide, fun p np => ?_⟩
    have x1 : Evl.Ex H (upd H p (.tup [vx, vy, vw])) := Evl.Ex.new np
    have ep : (upd H p (.tup [vx, vy, vw])) p = some (.tup [vx, vy, vw]) := upd_same
    generalize upd H p (.tup [vx, vy, vw]) = H1 at x1 ep
    have raise : ∀ H2, Evl.Ex H H2 → H2 p = some (.tup [vx, vy, vw]) → ¬ Xyw ex ey ew → ∀ d, H2 d = none → E (.ref C) (some d) (upd H2 d (.xd [(("thing" : Str), .ref p)])) := fun H2 x2 e2 no d nd =>
      qb no p d _ np (Evl.fresh_back x2 nd) (x2.trans (Evl.Ex.new nd)) (by rw [upd_ne (ne_of_none e2 nd)]; exact e2) upd_same
    refine ⟨_, rfl, .ref p, G, .tuple [ex, ey, ew], 3, rfl, .tup ep (dd_three (hx.keep (ex_keep x1)) (hy.keep (ex_keep x1)) (hw.keep (ex_keep x1))), bulk_three zx zy zw, fun H2 x2 => ⟨_, rfl, ?_⟩⟩
    have x12 := x1.trans x2
    have ep2 := x2 _ _ ep
    refine ite2 (fun h => ?_) (fun h => ?_)
    · have no : ¬ isInts 3 (.tuple [ex, ey, ew]) = true := fun z => by
        rw [z] at h
        cases h
      exact iteT ⟨_, rfl, _, rfl, fun d nd => raise H2 x12 ep2 (xyw_not no) d nd⟩
    have yes : isInts 3 (.tuple [ex, ey, ew]) = true := by
      cases e : isInts 3 (.tuple [ex, ey, ew]) with
      | true => rfl
      | false =>
        rw [e] at h
        exact absurd rfl h
    obtain ⟨x, y, z, rfl, rfl, rfl⟩ := isInts3_xyw yes
    obtain rfl := dd_int hx
    obtain rfl := dd_int hy
    obtain rfl := dd_int hw
    refine ⟨_, rfl, rfl, _, rfl, ite2 (fun h0 => ?_) (fun h0 => ?_)⟩
    · have h0 : z = 0 := V.int.inj (of_decide_eq_true h0)
      subst h0
      exact ⟨_, rfl, _, rfl, fun d nd => raise H2 x12 ep2 xyw_zero d nd⟩
    have h0 : z ≠ 0 := fun e => h0 (decide_eq_true (by rw [e]))
    obtain ⟨b, qa⟩ := qa x y z rfl rfl rfl h0
    obtain ⟨g0, g1⟩ := gl_le (ns := [x, y, z]) (x := z) (by simp) h0
    refine ⟨_, rfl, p, x, y, z, rfl, ep2, g0, by omega, fun p2 H3 n2 x3 e3 => ?_⟩
    refine ⟨p2, _, rfl, SqT.of e3, rfl, _, _, rfl, _, _, rfl, _, _, rfl, rfl, ?_⟩
    have x13 := x12.trans x3
    refine ⟨_, rfl, _, 0, rfl, rfl, _, rfl, ite2 (fun hz => ?_) (fun hz => ?_)⟩
    · have hz : z < 0 := by
        have := of_decide_eq_true hz
        rwa [sign_div h0] at this
      refine ⟨_, rfl, _, rfl, _, rfl, _, rfl, _, rfl, _, rfl, by show 3 ≤ sizeLine; decide, fun p3 n3 => ?_⟩
      refine qa p3 _ (Evl.fresh_back x13 n3) (x13.trans (Evl.Ex.new n3)) ?_
      rw [upd_same, placeOf_neg (by omega), low_neg3] <;> rfl
    · have hz : 0 < z := by
        have h2 : ¬ z < 0 := fun e => hz (decide_eq_true (by rw [sign_div h0]; exact e))
        omega
      refine ⟨_, rfl, _, rfl, _, rfl, by show 3 ≤ sizeLine; decide, fun p3 n3 => ?_⟩
      refine qa p3 _ (Evl.fresh_back x13 n3) (x13.trans (Evl.Ex.new n3)) ?_
      rw [upd_same, placeOf_pos hz, low3] <;> rfl
end
end Ey
namespace Ey
open PySem PySem.Spec PyProof.Rows L2
/-! ### calls within a try -/
section
variable {X : Cx} {CX : CXT} {k : Nat} {x : Str} {ps : List Str} {sp : Sp} {E : L2.St → XK} {p pos : Pos}
theorem pe_clS {e : Expr} {es : List Expr} {t : TA} (G : Fk X.prog X.w X.K X.mg X.base CX k x ps sp) (hr : Room k X.A) (hg : Gl X x) (hx : ∀ σ, PassesAt CX X σ (E σ)) (ha : PA X (e :: es) t)
    (hdb : (x == ("__debug__" : Str)) = false := by decide) (he : starEach (e :: es) X.env = (false, eval e X.env) :: starEach es X.env := by rfl) (hpl : (backTo pos (starEach es X.env)).any (·.1) = false := by rfl) :
    PE X (.Call (.Name x p) (e :: es) [] pos) (tCallS sp E t) := by
  obtain ⟨f, fd, a, b, c, d⟩ := G.ex
  exact pe_callS a hr hg c d.1 b hx ha hdb he hpl
def tCallKwS (n : Nat) (o : List Nat) (sp : Sp) (E : L2.St → XK) (tk : TA) : TE := fun σ H Q => tk σ H fun zs H1 => zs.length = n ∧ sp (o.map fun i => zs.getD i .non) H1 Q (E σ)
theorem pe_clkS {st : Stmt} {ks : List Str} {o : List Nat} {kws : List Keyword} {tk : TA} (G : Fk X.prog X.w X.K X.mg X.base CX k x ps sp) (S : At X.K X.mg x st) (B : KwOf X.K x st ps ks o) (ho : ∀ i ∈ o, i < ks.length)
    (hr : Room k X.A) (hg : Gl X x) (hx : ∀ σ, PassesAt CX X σ (E σ)) (hkw : PK X kws tk)
    (hall : (backToKw pos (keywordEach kws X.env)).all (·.1.isSome) = true := by rfl) (hks : (backToKw pos (keywordEach kws X.env)).filterMap (·.1) = ks := by rfl) (hdb : (x == ("__debug__" : Str)) = false := by decide)
    (hpl : ((backTo pos (starEach [] X.env)).any (·.1) || (backToKw pos (keywordEach kws X.env)).any (·.1.isNone)) = false := by rfl) :
    PE X (.Call (.Name x p) [] kws pos) (tCallKwS ks.length o sp E tk) := by
  obtain ⟨f, fd, a, _, c, d, oc, od, osl, lk⟩ := G.ex
  obtain ⟨f2, fd2, F2, c2⟩ := S.ex
  rw [c] at c2
  cases c2
  obtain ⟨oc2, od2, osl2, lk2⟩ := fun_lk F2
  rw [lk] at lk2
  cases lk2
  refine ⟨fun pins s σ H Q I h => ?_⟩
  refine wpAny_Call_Name_kw (ld_glob I hg c ?_ hdb)
  refine PySem.W.callWith_KW0 (h₀ := X.base) I.ok.mod.kin d hall ?_ hpl
  refine thn (hkw.run pos pins s σ H _ I h) fun ws s2 ⟨zs, H2, I2, rz, hl, q2⟩ => ⟨I2.kIn, ?_⟩
  rw [hks]
  have hl2 : ws.length = ks.length := rz.length.symm.trans hl
  have r2 := vals_perm rz o fun i hi => by rw [hl]; exact ho i hi
  refine wpAny_call (codeAny_mono (a.run X.A X.stack s2 H2 ⟨[], ks.zip ws⟩ _ _ Q (E σ) hr I2.env0 (B f fd F2 s2 ws I2.kIn hl2) r2 q2) fun r s' hq => ?_)
  cases r with
  | error e => exact hx σ pins H2 s2 e s' I2 hq
  | ok fl =>
    cases fl with
    | ret u => exact I2.after hq
    | next => exact False.elim hq
    | brk => exact False.elim hq
    | cont => exact False.elim hq
end
/-- what never raises here -/
theorem passF {X : Cx} : Passes (L2.CX X.prog X.w) X (fun _ _ _ => False) := fun _ _ _ _ _ _ _ ⟨_, _, _, _, _, _, _, _, _, _, _, _, h⟩ => h.elim
end Ey
namespace Ey
open PySem PySem.Spec PyProof.Rows L2
/-! ### places and multiples -/
theorem gl_mul3 (x y z s : Int) : gl [x * s, y * s, z * s] = gl [x, y, z] * s.natAbs := by
  rw [gl3, gl3, Int.natAbs_mul, Int.natAbs_mul, Int.natAbs_mul, Nat.gcd_mul_right, Nat.gcd_mul_right]
theorem low_mul3 {x y z s : Int} (h : 0 < s) : lowest [x * s, y * s, z * s] = lowest [x, y, z] := by
  have e : ((gl [x * s, y * s, z * s] : Nat) : Int) = ((gl [x, y, z] : Nat) : Int) * s := by
    rw [gl_mul3, Int.natCast_mul, Int.natAbs_of_nonneg (Int.le_of_lt h)]
  rw [low3, low3, e, Int.mul_ediv_mul_of_pos_left _ _ h, Int.mul_ediv_mul_of_pos_left _ _ h, Int.mul_ediv_mul_of_pos_left _ _ h]
theorem placeOf_mul {x y w t : Int} (hw : w ≠ 0) (ht : t ≠ 0) : placeOf (x * t) (y * t) (w * t) = placeOf x y w := by
  by_cases h : 0 < t
  · by_cases g : 0 < w
    · rw [placeOf_pos g, placeOf_pos (Int.mul_pos g h), low_mul3 h]
    · have g' : w * t < 0 := Int.mul_neg_of_neg_of_pos (by omega) h
      rw [placeOf_neg g, placeOf_neg (by omega), ← Int.neg_mul, ← Int.neg_mul, ← Int.neg_mul, low_mul3 h]
  · have h' : 0 < -t := by omega
    by_cases g : 0 < w
    · have g' : w * t < 0 := Int.mul_neg_of_pos_of_neg g (by omega)
      rw [placeOf_pos g, placeOf_neg (by omega), ← Int.mul_neg, ← Int.mul_neg, ← Int.mul_neg, low_mul3 h']
    · have g' : 0 < w * t := Int.mul_pos_of_neg_of_neg (by omega) (by omega)
      rw [placeOf_neg g, placeOf_pos g', ← low_mul3 (x := -x) (y := -y) (z := -w) h', Int.neg_mul_neg, Int.neg_mul_neg, Int.neg_mul_neg]
theorem natAbs_div {x : Int} {g : Nat} (h : (g : Int) ∣ x) : (x / (g : Int)).natAbs = x.natAbs / g := by
  obtain ⟨k, rfl⟩ := h
  by_cases hg : g = 0
  · subst hg
    simp
  · rw [Int.mul_ediv_cancel_left _ (by omega), Int.natAbs_mul, Int.natAbs_natCast, Nat.mul_div_cancel_left _ (Nat.pos_of_ne_zero hg)]
theorem gl_low3 {x y z : Int} (h : 0 < gl [x, y, z]) : Nat.gcd (Nat.gcd (x / (gl [x, y, z] : Nat)).natAbs (y / (gl [x, y, z] : Nat)).natAbs) (z / (gl [x, y, z] : Nat)).natAbs = 1 := by
  have dx := gl_dvd (ns := [x, y, z]) x (by simp)
  have dy := gl_dvd (ns := [x, y, z]) y (by simp)
  have dz := gl_dvd (ns := [x, y, z]) z (by simp)
  rw [natAbs_div (dvd_gl (by simp)), natAbs_div (dvd_gl (by simp)), natAbs_div (dvd_gl (by simp)), Nat.gcd_div dx dy, Nat.gcd_div (Nat.dvd_gcd dx dy) dz, ← gl3]
  exact Nat.div_self h
theorem isPlace_low {x y z : Int} (h : 0 < z) : isPlace (.tuple ((lowest [x, y, z]).map .int)) = true := by
  obtain ⟨g0, _⟩ := gl_le (ns := [x, y, z]) (x := z) (by simp) (by omega)
  show (decide (0 < z / (gl [x, y, z] : Nat)) && decide (Nat.gcd (Nat.gcd (x / (gl [x, y, z] : Nat)).natAbs (y / (gl [x, y, z] : Nat)).natAbs) (z / (gl [x, y, z] : Nat)).natAbs = 1)) = true
  have hs : ¬ (z / (gl [x, y, z] : Nat) < 0) := by
    rw [sign_div (by omega)]
    omega
  have h0 : z / (gl [x, y, z] : Nat) ≠ 0 := by
    have hd : ((gl [x, y, z] : Nat) : Int) ∣ z := dvd_gl (by simp)
    intro e
    have := Int.ediv_mul_cancel hd
    rw [e] at this
    omega
  rw [decide_eq_true (by omega : 0 < z / (gl [x, y, z] : Nat)), decide_eq_true (gl_low3 g0)]
  rfl
theorem isPlace_placeOf {x y w : Int} (h : w ≠ 0) : isPlace (.tuple ((placeOf x y w).map .int)) = true := by
  by_cases g : 0 < w
  · rw [placeOf_pos g]
    exact isPlace_low g
  · rw [placeOf_neg g]
    exact isPlace_low (by omega)
theorem placeOf_is (x y w : Int) : ∃ a b c : Int, placeOf x y w = [a, b, c] ∧ a.natAbs ≤ x.natAbs ∧ b.natAbs ≤ y.natAbs ∧ c.natAbs ≤ w.natAbs := by
  by_cases g : 0 < w
  · rw [placeOf_pos g]
    exact ⟨_, _, _, low3 .., Int.natAbs_ediv_le_natAbs _ _, Int.natAbs_ediv_le_natAbs _ _, Int.natAbs_ediv_le_natAbs _ _⟩
  · rw [placeOf_neg g]
    refine ⟨_, _, _, low3 .., ?_, ?_, ?_⟩
    · exact Nat.le_trans (Int.natAbs_ediv_le_natAbs _ _) (by omega)
    · exact Nat.le_trans (Int.natAbs_ediv_le_natAbs _ _) (by omega)
    · exact Nat.le_trans (Int.natAbs_ediv_le_natAbs _ _) (by omega)
theorem sz_placeOf {n1 n2 n3 m1 m2 m3 : Nat} {x y w : Int} (hx : Sz n1 m1 (.int x)) (hy : Sz n2 m2 (.int y)) (hw : Sz n3 m3 (.int w)) : Sz 3 1 (.tuple ((placeOf x y w).map .int)) := by
  obtain ⟨a, b, c, e, ha, hb, hc⟩ := placeOf_is x y w
  rw [e]
  exact ((sza_cons (sz_int (Nat.lt_of_le_of_lt ha (ib_int hx.ib))) (sza_cons (sz_int (Nat.lt_of_le_of_lt hb (ib_int hy.ib))) (sza_cons (sz_int (Nat.lt_of_le_of_lt hc (ib_int hw.ib))) sza_nil))).tuple).mono (by decide) (by decide)
theorem ddAll_ints {F : Addr → Prop} {H : Hp} : ∀ {vs : List V} {ns : List Int}, DdAll F H vs (ns.map PyData.int) → vs = ns.map V.int
  | _, [], h => by
    cases h
    rfl
  | _, n :: ns, h => by
    cases h with
    | cons a b =>
      cases a
      rw [ddAll_ints b] <;> rfl
end Ey
namespace Ey
open PySem PySem.Spec PyProof.Rows L2
/-! ### lines and places: crossed, checked, met, sides -/
abbrev sCrossed : Stmt := topS 18
abbrev sLCross : Stmt := topS 32
theorem scCrossed : FnScope ["one", "other", "a", "b", "c", "d", "e", "f"] ["one", "other"] (defScope sCrossed) := ⟨rfl, rfl, rfl, by decide +kernel, rfl, by decide +kernel, by decide +kernel⟩
theorem scLCross : FnScope ["p", "q"] ["p", "q"] (defScope sLCross) := ⟨rfl, rfl, rfl, by decide +kernel, rfl, by decide +kernel, by decide +kernel⟩
/-- not too far -/
def Lt6 (n : Int) : Prop := n.natAbs < 2 ^ 600
theorem lt6_mul {x y : Int} (a : Lt6 x) (b : Lt6 y) : CMulW x y := wide_mul a b (by decide) (by decide) (by decide)
theorem lt6_of {x : Int} {n : Nat} (h : x.natAbs < 2 ^ n) (hn : n ≤ 600) : Lt6 x := Nat.lt_of_lt_of_le h (Nat.pow_le_pow_right (by decide) hn)
theorem lt6_neg {x : Int} (h : Lt6 x) : Lt6 (-x) := by
  unfold Lt6
  rw [Int.natAbs_neg]
  exact h
theorem lt6_div {x : Int} {n : Int} (h : Lt6 x) : Lt6 (x / n) := Nat.lt_of_le_of_lt (Int.natAbs_ediv_le_natAbs _ _) h
theorem sub_lt {x y : Int} {n : Nat} (a : x.natAbs < 2 ^ n) (b : y.natAbs < 2 ^ n) : (x - y).natAbs < 2 ^ (n + 1) := by
  rw [Nat.pow_succ]
  have := Int.natAbs_sub_le x y
  omega
theorem add_lt {x y : Int} {n : Nat} (a : x.natAbs < 2 ^ n) (b : y.natAbs < 2 ^ n) : (x + y).natAbs < 2 ^ (n + 1) := by
  rw [Nat.pow_succ]
  have := Int.natAbs_add_le x y
  omega
/-- x and y in a row of three -/
def crossI (a b c d e f : Int) : List Int := [b * f - c * e, c * d - a * f, a * e - b * d]
theorem cross_lt {n : Nat} {a b c d : Int} (ha : a.natAbs < 2 ^ n) (hb : b.natAbs < 2 ^ n) (hc : c.natAbs < 2 ^ n) (hd : d.natAbs < 2 ^ n) : (a * b - c * d).natAbs < 2 ^ (n + n + 1) := sub_lt (wide_lt ha hb) (wide_lt hc hd)
section
variable {P : Program} {w : World} {K : PySem.W.Frag} {mg : Str → Option Value} {base : Heap}
def spCross : Sp := fun vs H Q _ => ∃ (p q : Addr) (a b c d e f : Int), vs = [.ref p, .ref q] ∧ H p = some (.tup ([a, b, c].map V.int)) ∧ H q = some (.tup ([d, e, f].map V.int)) ∧ Lt6 a ∧ Lt6 b ∧ Lt6 c ∧ Lt6 d ∧ Lt6 e ∧ Lt6 f ∧
  ∀ r H', H r = none → Evl.Ex H H' → H' r = some (.tup ((crossI a b c d e f).map V.int)) → Q (.ref r) H'
theorem fk_crossed (S : At K mg "crossed" sCrossed) : Fk P w K mg base CX0 1 "crossed" ["one", "other"] spCross := by
  obtain ⟨f, fd, F, g⟩ := S.ex
  refine ⟨f, fd, F.ok scCrossed (fun vs H Q E h => ?_) (fun cdv A outer s H vs Q E hr h => ?_), F.binds fun _ _ _ _ _ _ us hl => (match us, hl with | [_, _], _ => rfl), g, F.kp, fun_lk F⟩
  · obtain ⟨p, q, a, b, c, d, e, f, rfl, _⟩ := h
    rfl
  · obtain ⟨p, q, a, b, c, d, e, f, rfl, ep, eq, la, lb, lc, ld, le, lf, k⟩ := h
    refine ⟨_, pss_cons (ps_asg (pv 0) (pg_tup (by rfl) (pgs_cons (pg_name (i := 2) scCrossed.nd rfl (.inl rfl)) (pgs_cons (pg_name (i := 3) scCrossed.nd rfl (.inl rfl)) (pgs_cons (pg_name (i := 4) scCrossed.nd rfl (.inl rfl)) pgs_nil)))))
      (pss_cons (ps_asg (pv 1) (pg_tup (by rfl) (pgs_cons (pg_name (i := 5) scCrossed.nd rfl (.inl rfl)) (pgs_cons (pg_name (i := 6) scCrossed.nd rfl (.inl rfl)) (pgs_cons (pg_name (i := 7) scCrossed.nd rfl (.inl rfl)) pgs_nil)))))
      (pss_one (ps_ret (pe_tup (pa_cons (pe_op op_sub (pe_op op_mulW (pv 3) (pv 7)) (pe_op op_mulW (pv 4) (pv 6))) (pa_cons (pe_op op_sub (pe_op op_mulW (pv 4) (pv 5)) (pe_op op_mulW (pv 2) (pv 7))) (pa_cons (pe_op op_sub (pe_op op_mulW (pv 2) (pv 6)) (pe_op op_mulW (pv 3) (pv 5))) pa_nil))))))), ?_⟩
    refine ⟨_, rfl, p, _, rfl, SqT.of ep, rfl, _, _, rfl, _, _, rfl, _, _, rfl, rfl, _, rfl, q, _, rfl, SqT.of eq, rfl, _, _, rfl, _, _, rfl, _, _, rfl, rfl, ?_⟩
    refine ⟨_, rfl, _, rfl, b, f, rfl, rfl, lt6_mul lb lf, _, rfl, _, rfl, c, e, rfl, rfl, lt6_mul lc le, _, _, rfl, rfl, _, rfl, _, rfl, c, d, rfl, rfl, lt6_mul lc ld, _, rfl, _, rfl, a, f, rfl, rfl, lt6_mul la lf, _, _, rfl, rfl,
      _, rfl, _, rfl, a, e, rfl, rfl, lt6_mul la le, _, rfl, _, rfl, b, d, rfl, rfl, lt6_mul lb ld, _, _, rfl, rfl, by show 3 ≤ sizeLine; decide, fun r nr => ?_⟩
    exact k r _ nr (Evl.Ex.new nr) upd_same
theorem at30 {x y z : Int} : atI ([x, y, z].map V.int) 0 = some (.int x) := atI_nat (j := 0) rfl
theorem at31 {x y z : Int} : atI ([x, y, z].map V.int) 1 = some (.int y) := atI_nat (j := 1) rfl
theorem at32 {x y z : Int} : atI ([x, y, z].map V.int) 2 = some (.int z) := atI_nat (j := 2) rfl
theorem fk_lCross (S : At K mg "_law_cross" sLCross) : Fk P w K mg base CX0 1 "_law_cross" ["p", "q"] spCross := by
  obtain ⟨f, fd, F, g⟩ := S.ex
  refine ⟨f, fd, F.ok scLCross (fun vs H Q E h => ?_) (fun cdv A outer s H vs Q E hr h => ?_), F.binds fun _ _ _ _ _ _ us hl => (match us, hl with | [_, _], _ => rfl), g, F.kp, fun_lk F⟩
  · obtain ⟨p, q, a, b, c, d, e, f, rfl, _⟩ := h
    rfl
  · obtain ⟨p, q, a, b, c, d, e, f, rfl, ep, eq, la, lb, lc, ld, le, lf, k⟩ := h
    have ix {i : Nat} {Y : Cx} {n : Str} : True := trivial
    refine ⟨_, pss_one (ps_ret (pe_tup (pa_cons (pe_op op_sub (pe_op op_mulW (pe_ix ix_tup (pv 0) pe_int (fun _ _ => rfl)) (pe_ix ix_tup (pv 1) pe_int (fun _ _ => rfl))) (pe_op op_mulW (pe_ix ix_tup (pv 0) pe_int (fun _ _ => rfl)) (pe_ix ix_tup (pv 1) pe_int (fun _ _ => rfl))))
      (pa_cons (pe_op op_sub (pe_op op_mulW (pe_ix ix_tup (pv 0) pe_int (fun _ _ => rfl)) (pe_ix ix_tup (pv 1) pe_int (fun _ _ => rfl))) (pe_op op_mulW (pe_ix ix_tup (pv 0) pe_int (fun _ _ => rfl)) (pe_ix ix_tup (pv 1) pe_int (fun _ _ => rfl))))
      (pa_cons (pe_op op_sub (pe_op op_mulW (pe_ix ix_tup (pv 0) pe_int (fun _ _ => rfl)) (pe_ix ix_tup (pv 1) pe_int (fun _ _ => rfl))) (pe_op op_mulW (pe_ix ix_tup (pv 0) pe_int (fun _ _ => rfl)) (pe_ix ix_tup (pv 1) pe_int (fun _ _ => rfl)))) pa_nil))))), ?_⟩
    have sp := SqT.of (K := K) ep
    have sq := SqT.of (K := K) eq
    refine ⟨_, rfl, p, _, 1, _, rfl, rfl, sp, at31, _, rfl, q, _, 2, _, rfl, rfl, sq, at32, b, f, rfl, rfl, lt6_mul lb lf, _, rfl, p, _, 2, _, rfl, rfl, sp, at32, _, rfl, q, _, 1, _, rfl, rfl, sq, at31, c, e, rfl, rfl, lt6_mul lc le, _, _, rfl, rfl,
      _, rfl, p, _, 2, _, rfl, rfl, sp, at32, _, rfl, q, _, 0, _, rfl, rfl, sq, at30, c, d, rfl, rfl, lt6_mul lc ld, _, rfl, p, _, 0, _, rfl, rfl, sp, at30, _, rfl, q, _, 2, _, rfl, rfl, sq, at32, a, f, rfl, rfl, lt6_mul la lf, _, _, rfl, rfl,
      _, rfl, p, _, 0, _, rfl, rfl, sp, at30, _, rfl, q, _, 1, _, rfl, rfl, sq, at31, a, e, rfl, rfl, lt6_mul la le, _, rfl, p, _, 1, _, rfl, rfl, sp, at31, _, rfl, q, _, 0, _, rfl, rfl, sq, at30, b, d, rfl, rfl, lt6_mul lb ld, _, _, rfl, rfl, by show 3 ≤ sizeLine; decide, fun r nr => ?_⟩
    exact k r _ nr (Evl.Ex.new nr) upd_same
/-! checked -/
def spChk (p : PyData → Bool) (C : Addr) : Sp := fun vs H Q E => ∃ (v : V) (F : Addr → Prop) (e : PyData), vs = [v] ∧ Dd F H v e ∧ e.bulk ≤ 7000 ∧ (p e = true → ∀ H', Evl.Ex H H' → Q .non H') ∧
  (p e = false → ∀ d H', H d = none → Evl.Ex H H' → H' d = some (.xd [(("thing" : Str), v)]) → E (.ref C) (some d) H')
abbrev sChkL : Stmt := topS 15
theorem scChkL : FnScope ["thing"] ["thing"] (defScope sChkL) := ⟨rfl, rfl, rfl, by decide +kernel, rfl, by decide +kernel, by decide +kernel⟩
theorem fk_chkL {C B fI : Addr} (S : At K mg "check_line" sChkL) (X : ErrTxt P K mg "BadLine" "thing" C B fI) (G : Fk P w K mg base CX0 3 "is_line" ["thing"] (spIsB isLine)) : Fk P w K mg base (L2.CX P w) 4 "check_line" ["thing"] (spChk isLine C) := by
  obtain ⟨f, fd, F, g⟩ := S.ex
  refine ⟨f, fd, F.okX scChkL (fun vs H Q E h => ?_) (fun cdv A outer s H vs Q E hr h => ?_), F.binds fun _ _ _ _ _ _ us hl => (match us, hl with | [_], _ => rfl), g, F.kp, fun_lk F⟩
  · obtain ⟨v, G, e, rfl, _⟩ := h
    rfl
  · obtain ⟨v, G', e, rfl, hd, hz, qa, qb⟩ := h
    refine ⟨_, pss_one (ps_if (pt_not (pt_val (pe_cl G hr (by rfl) pass0 (pa_cons (pv 0) pa_nil)))) (pss_one (ps_raiseEr rfl X (hr.mono (by decide : 1 ≤ 3)) (takes_of rfl rfl rfl rfl) (pa_cons (pv 0) pa_nil) (by rfl))) pss_nil), ?_⟩
    refine ⟨_, rfl, v, G', e, rfl, hd, hz, fun H' x => ⟨_, rfl, ite2 (fun h => ?_) (fun h => ?_)⟩⟩
    · have h : isLine e = false := by simpa using h
      exact ⟨_, rfl, _, rfl, fun d nd => qb h d _ (Evl.fresh_back x nd) (x.trans (Evl.Ex.new nd)) upd_same⟩
    · have h : isLine e = true := by simpa using h
      exact qa h H' x
abbrev sChkP : Stmt := topS 14
theorem scChkP : FnScope ["thing"] ["thing"] (defScope sChkP) := ⟨rfl, rfl, rfl, by decide +kernel, rfl, by decide +kernel, by decide +kernel⟩
theorem fk_chkP {C B fI : Addr} (S : At K mg "check_place" sChkP) (X : ErrTxt P K mg "BadPlace" "thing" C B fI) (G : Fk P w K mg base CX0 3 "is_place" ["thing"] (spIsB isPlace)) : Fk P w K mg base (L2.CX P w) 4 "check_place" ["thing"] (spChk isPlace C) := by
  obtain ⟨f, fd, F, g⟩ := S.ex
  refine ⟨f, fd, F.okX scChkP (fun vs H Q E h => ?_) (fun cdv A outer s H vs Q E hr h => ?_), F.binds fun _ _ _ _ _ _ us hl => (match us, hl with | [_], _ => rfl), g, F.kp, fun_lk F⟩
  · obtain ⟨v, G, e, rfl, _⟩ := h
    rfl
  · obtain ⟨v, G', e, rfl, hd, hz, qa, qb⟩ := h
    refine ⟨_, pss_one (ps_if (pt_not (pt_val (pe_cl G hr (by rfl) pass0 (pa_cons (pv 0) pa_nil)))) (pss_one (ps_raiseEr rfl X (hr.mono (by decide : 1 ≤ 3)) (takes_of rfl rfl rfl rfl) (pa_cons (pv 0) pa_nil) (by rfl))) pss_nil), ?_⟩
    refine ⟨_, rfl, v, G', e, rfl, hd, hz, fun H' x => ⟨_, rfl, ite2 (fun h => ?_) (fun h => ?_)⟩⟩
    · have h : isPlace e = false := by simpa using h
      exact ⟨_, rfl, _, rfl, fun d nd => qb h d _ (Evl.fresh_back x nd) (x.trans (Evl.Ex.new nd)) upd_same⟩
    · have h : isPlace e = true := by simpa using h
      exact qa h H' x
end
end Ey
namespace Ey
open PySem PySem.Spec PyProof.Rows L2
/-! ### where lines meet, which side -/
/-- an integer's sign -/
def sgn (n : Int) : Int := if 0 < n then 1 else if n < 0 then -1 else 0
def meetOf (x y w : Int) : PyData := if w = 0 then .none else .tuple ((placeOf x y w).map .int)
def meetD (a b c d e f : Int) : PyData := meetOf (b * f - c * e) (c * d - a * f) (a * e - b * d)
theorem dd_three_ints {F : Addr → Prop} {H : Hp} {v : V} {e : PyData} (h : Dd F H v e) (hi : isInts 3 e = true) : ∃ p x y z, v = .ref p ∧ e = .tuple [.int x, .int y, .int z] ∧ H p = some (.tup ([x, y, z].map V.int)) := by
  obtain ⟨x, y, z, rfl⟩ := isInts3 hi
  obtain ⟨p, rfl, ep⟩ := dd_tup3 h
  exact ⟨p, x, y, z, rfl, rfl, ep⟩
theorem isLine_ints {e : PyData} (h : isLine e = true) : isInts 3 e = true := by
  cases z : isInts 3 e with
  | true => rfl
  | false =>
    rw [isLine_no z] at h
    cases h
theorem isPlace_ints {e : PyData} (h : isPlace e = true) : isInts 3 e = true := by
  cases z : isInts 3 e with
  | true => rfl
  | false =>
    rw [isPlace_no z] at h
    cases h
/-- the three within bounds -/
structure Lt63 (x y z : Int) : Prop where
  a : Lt6 x
  b : Lt6 y
  c : Lt6 z
theorem big600 {x y z u : Int} (a : Lt6 x) (b : Lt6 y) (c : Lt6 z) (d : Lt6 u) : (x * y - z * u).natAbs < 2 ^ 2100 := Nat.lt_of_lt_of_le (cross_lt a b c d) (Nat.pow_le_pow_right (by decide) (by decide))
section
variable {P : Program} {w : World} {K : PySem.W.Frag} {mg : Str → Option Value} {base : Heap}
abbrev sMeet : Stmt := topS 13
theorem scMeet : FnScope ["one", "other", "x", "y", "w"] ["one", "other"] (defScope sMeet) := ⟨rfl, rfl, rfl, by decide +kernel, rfl, by decide +kernel, by decide +kernel⟩
def spMeet (C : Addr) : Sp := fun vs H Q E => ∃ (va vb : V) (F : Addr → Prop) (ea eb : PyData), vs = [va, vb] ∧ Dd F H va ea ∧ Dd F H vb eb ∧ ea.bulk ≤ 7000 ∧ eb.bulk ≤ 7000 ∧
  (∀ a b c d e f : Int, ea = .tuple [.int a, .int b, .int c] → eb = .tuple [.int d, .int e, .int f] → isLine ea = true → isLine eb = true → Lt63 a b c ∧ Lt63 d e f ∧ ∀ v H', Evl.Ex H H' → Dd F H' v (meetD a b c d e f) → Q v H') ∧
  (isLine ea = false → ∀ d H', H d = none → Evl.Ex H H' → H' d = some (.xd [(("thing" : Str), va)]) → E (.ref C) (some d) H') ∧
  (isLine ea = true → isLine eb = false → ∀ d H', H d = none → Evl.Ex H H' → H' d = some (.xd [(("thing" : Str), vb)]) → E (.ref C) (some d) H')
theorem fk_meet {C CP : Addr} (S : At K mg "meeting" sMeet) (GC : Fk P w K mg base (L2.CX P w) 4 "check_line" ["thing"] (spChk isLine C)) (GX : Fk P w K mg base CX0 1 "crossed" ["one", "other"] spCross) (GQ : Fk P w K mg base (L2.CX P w) 3 "place" ["x", "y", "w"] (spPlace CP)) :
    Fk P w K mg base (L2.CX P w) 5 "meeting" ["one", "other"] (spMeet C) := by
  obtain ⟨f, fd, F, g⟩ := S.ex
  refine ⟨f, fd, F.okX scMeet (fun vs H Q E h => ?_) (fun cdv A outer s H vs Q E hr h => ?_), F.binds fun _ _ _ _ _ _ us hl => (match us, hl with | [_, _], _ => rfl), g, F.kp, fun_lk F⟩
  · obtain ⟨va, vb, G, ea, eb, rfl, _⟩ := h
    rfl
  · obtain ⟨va, vb, G, ea, eb, rfl, ha, hb, za, zb, q1, q2, q3⟩ := h
    have h3 : Room 3 (A.deeper (envOfC "meeting" (defScope sMeet) s.heap.objs.size f cdv)) := hr.mono (by decide)
    have h1 : Room 1 (A.deeper (envOfC "meeting" (defScope sMeet) s.heap.objs.size f cdv)) := hr.mono (by decide)
    refine ⟨_, pss_cons (ps_expr (pe_cl GC hr (by rfl) (passes_call (takes_of rfl rfl rfl rfl) fun _ _ _ _ h => h) (pa_cons (pv 0) pa_nil)))
      (pss_cons (ps_expr (pe_cl GC hr (by rfl) (passes_call (takes_of rfl rfl rfl rfl) fun _ _ _ _ h => h) (pa_cons (pv 1) pa_nil)))
      (pss_cons (ps_asg (pe_cl GX h1 (by rfl) pass0 (pa_cons (pv 0) (pa_cons (pv 1) pa_nil))) (pg_tup (by rfl) (pgs_cons (pg_name (i := 2) scMeet.nd rfl (.inl rfl)) (pgs_cons (pg_name (i := 3) scMeet.nd rfl (.inl rfl)) (pgs_cons (pg_name (i := 4) scMeet.nd rfl (.inl rfl)) pgs_nil)))))
      (pss_one (ps_ret (pe_ifExp (pt_cmpR op_eq (pv 4) pe_int (nomark _)) pe_non (pe_cl GQ h3 (by rfl) passF (pa_cons (pv 2) (pa_cons (pv 3) (pa_cons (pv 4) pa_nil))))))))), ?_⟩
    refine ⟨_, rfl, va, G, ea, rfl, ha, za, fun la H1 x1 => ?_, fun la d H1 nd x1 ed => q2 la d H1 nd x1 ed⟩
    refine ⟨_, rfl, vb, G, eb, rfl, hb.keep (ex_keep x1), zb, fun lb H2 x2 => ?_, fun lb d H2 nd x2 ed => q3 la lb d H2 (Evl.fresh_back x1 nd) (x1.trans x2) ed⟩
    have x12 := x1.trans x2
    obtain ⟨p, a, b, c, rfl, rfl, ep⟩ := dd_three_ints (ha.keep (ex_keep x12)) (isLine_ints la)
    obtain ⟨r, d, e, f', rfl, rfl, er⟩ := dd_three_ints (hb.keep (ex_keep x12)) (isLine_ints lb)
    obtain ⟨b1, b2, q1⟩ := q1 a b c d e f' rfl rfl la lb
    refine ⟨_, rfl, _, rfl, p, r, a, b, c, d, e, f', rfl, ep, er, b1.a, b1.b, b1.c, b2.a, b2.b, b2.c, fun t H3 nt x3 et => ?_⟩
    have x13 := x12.trans x3
    refine ⟨t, _, rfl, SqT.of et, rfl, _, _, rfl, _, _, rfl, _, _, rfl, rfl, ?_⟩
    refine ⟨_, rfl, rfl, _, rfl, ite2 (fun h0 => ?_) (fun h0 => ?_)⟩
    · have h0 : a * e - b * d = 0 := V.int.inj (of_decide_eq_true h0)
      refine q1 _ _ x13 ?_
      show Dd G H3 .non (meetOf _ _ _)
      unfold meetOf
      rw [if_pos h0]
      exact .non
    · have h0 : a * e - b * d ≠ 0 := fun z => h0 (decide_eq_true (by rw [z]))
      refine ⟨_, rfl, _, rfl, _, rfl, _, _, _, fun _ => True, _, _, _, rfl, .int _, .int _, .int _, by simp [PyData.bulk], by simp [PyData.bulk], by simp [PyData.bulk], fun x y z f1 f2 f3 _ => ⟨?_, fun p2 H4 _ x4 e4 => ?_⟩, fun nx => absurd ⟨_, _, _, rfl, rfl, rfl, h0⟩ nx⟩
      · cases f3
        exact big600 b1.a b2.b b1.b b2.a
      · cases f1
        cases f2
        cases f3
        refine q1 _ _ (x13.trans x4) ?_
        show Dd G H4 _ (meetOf _ _ _)
        unfold meetOf
        rw [if_neg h0]
        exact .tup e4 (dd_ints _)
abbrev sWorthP : Stmt := topS 16
theorem scWorthP : FnScope ["line", "p"] ["line", "p"] (defScope sWorthP) := ⟨rfl, rfl, rfl, by decide +kernel, rfl, by decide +kernel, by decide +kernel⟩
def spWorthP : Sp := fun vs H Q _ => ∃ (p q : Addr) (a b c d e f : Int), vs = [.ref p, .ref q] ∧ H p = some (.tup ([a, b, c].map V.int)) ∧ H q = some (.tup ([d, e, f].map V.int)) ∧ Lt63 a b c ∧ Lt63 d e f ∧ Q (.int (a * d + b * e + c * f)) H
theorem fk_worthP (S : At K mg "worth" sWorthP) : Fk P w K mg base CX0 1 "worth" ["line", "p"] spWorthP := by
  obtain ⟨f, fd, F, g⟩ := S.ex
  refine ⟨f, fd, F.ok scWorthP (fun vs H Q E h => ?_) (fun cdv A outer s H vs Q E hr h => ?_), F.binds fun _ _ _ _ _ _ us hl => (match us, hl with | [_, _], _ => rfl), g, F.kp, fun_lk F⟩
  · obtain ⟨p, q, a, b, c, d, e, f, rfl, _⟩ := h
    rfl
  · obtain ⟨p, r, a, b, c, d, e, f', rfl, ep, er, b1, b2, q⟩ := h
    refine ⟨_, pss_one (ps_ret (pe_op op_add (pe_op op_add (pe_op op_mulW (pe_ix ix_tup (pv 0) pe_int (fun _ _ => rfl)) (pe_ix ix_tup (pv 1) pe_int (fun _ _ => rfl))) (pe_op op_mulW (pe_ix ix_tup (pv 0) pe_int (fun _ _ => rfl)) (pe_ix ix_tup (pv 1) pe_int (fun _ _ => rfl))))
        (pe_op op_mulW (pe_ix ix_tup (pv 0) pe_int (fun _ _ => rfl)) (pe_ix ix_tup (pv 1) pe_int (fun _ _ => rfl))))), ?_⟩
    have sp := SqT.of (K := K) ep
    have sq := SqT.of (K := K) er
    exact ⟨_, rfl, p, _, 0, _, rfl, rfl, sp, at30, _, rfl, r, _, 0, _, rfl, rfl, sq, at30, a, d, rfl, rfl, lt6_mul b1.a b2.a, _, rfl, p, _, 1, _, rfl, rfl, sp, at31, _, rfl, r, _, 1, _, rfl, rfl, sq, at31, b, e, rfl, rfl, lt6_mul b1.b b2.b, _, _, rfl, rfl,
      _, rfl, p, _, 2, _, rfl, rfl, sp, at32, _, rfl, r, _, 2, _, rfl, rfl, sq, at32, c, f', rfl, rfl, lt6_mul b1.c b2.c, _, _, rfl, rfl, q⟩
abbrev sSide : Stmt := topS 12
theorem scSide : FnScope ["line", "p", "found"] ["line", "p"] (defScope sSide) := ⟨rfl, rfl, rfl, by decide +kernel, rfl, by decide +kernel, by decide +kernel⟩
def spSide (CL CP : Addr) : Sp := fun vs H Q E => ∃ (va vb : V) (F : Addr → Prop) (ea eb : PyData), vs = [va, vb] ∧ Dd F H va ea ∧ Dd F H vb eb ∧ ea.bulk ≤ 7000 ∧ eb.bulk ≤ 7000 ∧
  (∀ a b c d e f : Int, ea = .tuple [.int a, .int b, .int c] → eb = .tuple [.int d, .int e, .int f] → isLine ea = true → isPlace eb = true → Lt63 a b c ∧ Lt63 d e f ∧ ∀ H', Evl.Ex H H' → Q (.int (sgn (a * d + b * e + c * f))) H') ∧
  (isLine ea = false → ∀ d H', H d = none → Evl.Ex H H' → H' d = some (.xd [(("thing" : Str), va)]) → E (.ref CL) (some d) H') ∧
  (isLine ea = true → isPlace eb = false → ∀ d H', H d = none → Evl.Ex H H' → H' d = some (.xd [(("thing" : Str), vb)]) → E (.ref CP) (some d) H')
theorem fk_side {CL CP : Addr} (S : At K mg "side" sSide) (GW : Fk P w K mg base CX0 1 "worth" ["line", "p"] spWorthP) (GL : Fk P w K mg base (L2.CX P w) 4 "check_line" ["thing"] (spChk isLine CL)) (GP : Fk P w K mg base (L2.CX P w) 4 "check_place" ["thing"] (spChk isPlace CP)) :
    Fk P w K mg base (L2.CX P w) 5 "side" ["line", "p"] (spSide CL CP) := by
  obtain ⟨f, fd, F, g⟩ := S.ex
  refine ⟨f, fd, F.okX scSide (fun vs H Q E h => ?_) (fun cdv A outer s H vs Q E hr h => ?_), F.binds fun _ _ _ _ _ _ us hl => (match us, hl with | [_, _], _ => rfl), g, F.kp, fun_lk F⟩
  · obtain ⟨va, vb, G, ea, eb, rfl, _⟩ := h
    rfl
  · obtain ⟨va, vb, G, ea, eb, rfl, ha, hb, za, zb, q1, q2, q3⟩ := h
    refine ⟨_, pss_cons (ps_expr (pe_cl GL hr (by rfl) (passes_call (takes_of rfl rfl rfl rfl) fun _ _ _ _ h => h) (pa_cons (pv 0) pa_nil)))
      (pss_cons (ps_expr (pe_cl GP hr (by rfl) (passes_call (takes_of rfl rfl rfl rfl) fun _ _ _ _ h => h) (pa_cons (pv 1) pa_nil)))
      (pss_cons (ps_set (i := 2) scSide.nd rfl (.inl rfl) (pe_cl GW (hr.mono (by decide : 1 ≤ 4)) (by rfl) pass0 (pa_cons (pv 0) (pa_cons (pv 1) pa_nil))))
      (pss_cons (ps_if (pt_cmpR op_eq (pv 2) pe_int (nomark _)) (pss_one (ps_ret pe_int)) pss_nil)
      (pss_one (ps_ret (pe_ifExp (pt_cmpR op_gt (pv 2) pe_int (nomark _)) pe_int (pe_un un_neg pe_int))))))), ?_⟩
    refine ⟨_, rfl, va, G, ea, rfl, ha, za, fun la H1 x1 => ?_, fun la d H1 nd x1 ed => q2 la d H1 nd x1 ed⟩
    refine ⟨_, rfl, vb, G, eb, rfl, hb.keep (ex_keep x1), zb, fun lb H2 x2 => ?_, fun lb d H2 nd x2 ed => q3 la lb d H2 (Evl.fresh_back x1 nd) (x1.trans x2) ed⟩
    have x12 := x1.trans x2
    obtain ⟨p, a, b, c, rfl, rfl, ep⟩ := dd_three_ints (ha.keep (ex_keep x12)) (isLine_ints la)
    obtain ⟨r, d, e, f', rfl, rfl, er⟩ := dd_three_ints (hb.keep (ex_keep x12)) (isPlace_ints lb)
    obtain ⟨b1, b2, q1⟩ := q1 a b c d e f' rfl rfl la lb
    refine ⟨_, rfl, _, rfl, p, r, a, b, c, d, e, f', rfl, ep, er, b1, b2, ?_⟩
    have q1 := q1 H2 x12
    refine ⟨_, rfl, rfl, _, rfl, ite2 (fun h0 => ?_) (fun h0 => ?_)⟩
    · have h0 : a * d + b * e + c * f' = 0 := V.int.inj (of_decide_eq_true h0)
      rw [h0] at q1
      exact q1
    · have h0 : a * d + b * e + c * f' ≠ 0 := fun z => h0 (decide_eq_true (congrArg V.int z))
      refine ⟨_, rfl, _, 0, rfl, rfl, _, rfl, ite2 (fun h1 => ?_) (fun h1 => ?_)⟩
      · have h1 : 0 < a * d + b * e + c * f' := of_decide_eq_true h1
        rw [show sgn (a * d + b * e + c * f') = 1 by unfold sgn; rw [if_pos h1]] at q1
        exact q1
      · have h1 : ¬ 0 < a * d + b * e + c * f' := fun z => h1 (decide_eq_true z)
        rw [show sgn (a * d + b * e + c * f') = -1 by unfold sgn; rw [if_neg h1, if_pos (by omega)]] at q1
        exact ⟨1, rfl, q1⟩
end
end Ey
namespace Ey
open PySem PySem.Spec PyProof.Rows L2
/-! ### the law's lines and places -/
theorem isLine_def {x y z : Int} : isLine (.tuple [.int x, .int y, .int z]) = true ↔ (x ≠ 0 ∨ y ≠ 0) ∧ Nat.gcd (Nat.gcd x.natAbs y.natAbs) z.natAbs = 1 := by
  rw [isLine_eq, Bool.and_eq_true, decide_eq_true_iff]
  refine and_congr_left fun _ => ?_
  by_cases hx : x = 0
  · by_cases hy : y = 0
    · simp [hx, hy]
    · simp [hx, hy]
  · simp [hx]
theorem isPlace_def {x y z : Int} : isPlace (.tuple [.int x, .int y, .int z]) = true ↔ 0 < z ∧ gl [x, y, z] = 1 := by
  show (decide (0 < z) && decide (Nat.gcd (Nat.gcd x.natAbs y.natAbs) z.natAbs = 1)) = true ↔ _
  rw [gl3, Bool.and_eq_true, decide_eq_true_iff, decide_eq_true_iff]
theorem div_zero_of {x : Int} {g : Nat} (hd : (g : Int) ∣ x) (h : x / (g : Int) = 0) : x = 0 := by
  have := Int.ediv_mul_cancel hd
  rw [h] at this
  omega
theorem isLine_low {x y z : Int} (h : x ≠ 0 ∨ y ≠ 0) : isLine (.tuple ((lowest [x, y, z]).map .int)) = true := by
  have g0 : 0 < gl [x, y, z] := by
    rcases h with h | h
    · exact (gl_le (ns := [x, y, z]) (x := x) (by simp) h).1
    · exact (gl_le (ns := [x, y, z]) (x := y) (by simp) h).1
  refine isLine_def.mpr ⟨?_, gl_low3 g0⟩
  rcases h with h | h
  · exact .inl fun e => h (div_zero_of (dvd_gl (by simp)) e)
  · exact .inr fun e => h (div_zero_of (dvd_gl (by simp)) e)
theorem isLine_neg {x y z : Int} (h : isLine (.tuple [.int x, .int y, .int z]) = true) : isLine (.tuple [.int (-x), .int (-y), .int (-z)]) = true := by
  obtain ⟨h1, h2⟩ := isLine_def.mp h
  refine isLine_def.mpr ⟨by omega, ?_⟩
  rw [Int.natAbs_neg, Int.natAbs_neg, Int.natAbs_neg]
  exact h2
theorem low_one {x y z : Int} (h : gl [x, y, z] = 1) : lowest [x, y, z] = [x, y, z] := by
  rw [low3, h]
  simp
theorem place_same {a b c d e f : Int} (h1 : 0 < c) (g1 : gl [a, b, c] = 1) (h2 : 0 < f) (g2 : gl [d, e, f] = 1) (k1 : b * f - c * e = 0) (k2 : c * d - a * f = 0) : [a, b, c] = [d, e, f] := by
  have e1 := low_mul3 (x := a) (y := b) (z := c) h2
  have e2 := low_mul3 (x := d) (y := e) (z := f) h1
  rw [low_one g1] at e1
  rw [low_one g2] at e2
  have r1 : a * f = d * c := by rw [Int.mul_comm d c]; omega
  have r2 : b * f = e * c := by rw [Int.mul_comm e c]; omega
  rw [r1, r2, Int.mul_comm c f] at e1
  rw [← e1, ← e2]
theorem cross_line {a b c d e f : Int} (h1 : isPlace (.tuple [.int a, .int b, .int c]) = true) (h2 : isPlace (.tuple [.int d, .int e, .int f]) = true) (h : [a, b, c] ≠ [d, e, f]) : b * f - c * e ≠ 0 ∨ c * d - a * f ≠ 0 := by
  obtain ⟨p1, g1⟩ := isPlace_def.mp h1
  obtain ⟨p2, g2⟩ := isPlace_def.mp h2
  by_cases k1 : b * f - c * e = 0
  · exact .inr fun k2 => h (place_same p1 g1 p2 g2 k1 k2)
  · exact .inl k1
section
variable {P : Program} {w : World} {K : PySem.W.Frag} {mg : Str → Option Value} {base : Heap}
abbrev sLThr : Stmt := topS 33
theorem scLThr : FnScope ["p", "q"] ["p", "q"] (defScope sLThr) := ⟨rfl, rfl, rfl, by decide +kernel, rfl, by decide +kernel, by decide +kernel⟩
def spLThr : Sp := fun vs H Q _ => ∃ (p q : Addr) (a b c d e f : Int), vs = [.ref p, .ref q] ∧ H p = some (.tup ([a, b, c].map V.int)) ∧ H q = some (.tup ([d, e, f].map V.int)) ∧ Lt63 a b c ∧ Lt63 d e f ∧ (b * f - c * e ≠ 0 ∨ c * d - a * f ≠ 0) ∧
  ∀ r H', H r = none → Evl.Ex H H' → H' r = some (.tup ((lowest (crossI a b c d e f)).map V.int)) → Q (.ref r) H'
theorem gl_cross {a b c d e f : Int} (h1 : Lt63 a b c) (h2 : Lt63 d e f) (h : b * f - c * e ≠ 0 ∨ c * d - a * f ≠ 0) : 0 < gl (crossI a b c d e f) ∧ gl (crossI a b c d e f) < 2 ^ 2100 := by
  rcases h with h | h
  · obtain ⟨k1, k2⟩ := gl_le (ns := crossI a b c d e f) (x := b * f - c * e) (by simp [crossI]) h
    exact ⟨k1, Nat.lt_of_le_of_lt k2 (big600 h1.b h2.c h1.c h2.b)⟩
  · obtain ⟨k1, k2⟩ := gl_le (ns := crossI a b c d e f) (x := c * d - a * f) (by simp [crossI]) h
    exact ⟨k1, Nat.lt_of_le_of_lt k2 (big600 h1.c h2.a h1.a h2.c)⟩
theorem fk_lThr (S : At K mg "_law_through" sLThr) (GX : Fk P w K mg base CX0 1 "_law_cross" ["p", "q"] spCross) (GL : Fk P w K mg base CX0 2 "_law_least" ["row"] (spLeast K)) : Fk P w K mg base CX0 3 "_law_through" ["p", "q"] spLThr := by
  obtain ⟨f, fd, F, g⟩ := S.ex
  refine ⟨f, fd, F.ok scLThr (fun vs H Q E h => ?_) (fun cdv A outer s H vs Q E hr h => ?_), F.binds fun _ _ _ _ _ _ us hl => (match us, hl with | [_, _], _ => rfl), g, F.kp, fun_lk F⟩
  · obtain ⟨p, q, a, b, c, d, e, f, rfl, _⟩ := h
    rfl
  · obtain ⟨p, q, a, b, c, d, e, f', rfl, ep, eq, b1, b2, hn, k⟩ := h
    refine ⟨_, pss_one (ps_ret (pe_cl GL hr (by rfl) pass0 (pa_cons (pe_cl GX (hr.mono (by decide)) (by rfl) pass0 (pa_cons (pv 0) (pa_cons (pv 1) pa_nil))) pa_nil))), ?_⟩
    refine ⟨_, rfl, _, rfl, p, q, a, b, c, d, e, f', rfl, ep, eq, b1.a, b1.b, b1.c, b2.a, b2.b, b2.c, fun t H1 nt x1 et => ?_⟩
    obtain ⟨g0, g1⟩ := gl_cross b1 b2 hn
    exact ⟨t, _, rfl, SqT.of et, by show 3 ≤ 100; decide, g0, g1, fun p2 H2 n2 x2 e2 => k p2 H2 (Evl.fresh_back x1 n2) (x1.trans x2) e2⟩
abbrev sLMeet : Stmt := topS 34
theorem scLMeet : FnScope ["one", "other", "x", "y", "w"] ["one", "other"] (defScope sLMeet) := ⟨rfl, rfl, rfl, by decide +kernel, rfl, by decide +kernel, by decide +kernel⟩
def spLMeet : Sp := fun vs H Q _ => ∃ (p q : Addr) (a b c d e f : Int), vs = [.ref p, .ref q] ∧ H p = some (.tup ([a, b, c].map V.int)) ∧ H q = some (.tup ([d, e, f].map V.int)) ∧ Lt63 a b c ∧ Lt63 d e f ∧
  ∀ v H', Evl.Ex H H' → (∀ F, Dd F H' v (meetD a b c d e f)) → Q v H'
theorem fk_lMeet (S : At K mg "_law_meeting" sLMeet) (GX : Fk P w K mg base CX0 1 "_law_cross" ["p", "q"] spCross) (GL : Fk P w K mg base CX0 3 "_law_place" ["x", "y", "w"] spLPlace) : Fk P w K mg base CX0 4 "_law_meeting" ["one", "other"] spLMeet := by
  obtain ⟨f, fd, F, g⟩ := S.ex
  refine ⟨f, fd, F.ok scLMeet (fun vs H Q E h => ?_) (fun cdv A outer s H vs Q E hr h => ?_), F.binds fun _ _ _ _ _ _ us hl => (match us, hl with | [_, _], _ => rfl), g, F.kp, fun_lk F⟩
  · obtain ⟨p, q, a, b, c, d, e, f, rfl, _⟩ := h
    rfl
  · obtain ⟨p, q, a, b, c, d, e, f', rfl, ep, eq, b1, b2, k⟩ := h
    refine ⟨_, pss_cons (ps_asg (pe_cl GX (hr.mono (by decide)) (by rfl) pass0 (pa_cons (pv 0) (pa_cons (pv 1) pa_nil))) (pg_tup (by rfl) (pgs_cons (pg_name (i := 2) scLMeet.nd rfl (.inl rfl)) (pgs_cons (pg_name (i := 3) scLMeet.nd rfl (.inl rfl)) (pgs_cons (pg_name (i := 4) scLMeet.nd rfl (.inl rfl)) pgs_nil)))))
      (pss_one (ps_ret (pe_ifExp (pt_cmpR op_eq (pv 4) pe_int (nomark _)) pe_non (pe_cl GL hr (by rfl) pass0 (pa_cons (pv 2) (pa_cons (pv 3) (pa_cons (pv 4) pa_nil))))))), ?_⟩
    refine ⟨_, rfl, _, rfl, p, q, a, b, c, d, e, f', rfl, ep, eq, b1.a, b1.b, b1.c, b2.a, b2.b, b2.c, fun t H1 nt x1 et => ?_⟩
    refine ⟨t, _, rfl, SqT.of et, rfl, _, _, rfl, _, _, rfl, _, _, rfl, rfl, ?_⟩
    refine ⟨_, rfl, rfl, _, rfl, ite2 (fun h0 => ?_) (fun h0 => ?_)⟩
    · have h0 : a * e - b * d = 0 := V.int.inj (of_decide_eq_true h0)
      refine k _ _ x1 fun F => ?_
      unfold meetD meetOf
      rw [if_pos h0]
      exact .non
    · have h0 : a * e - b * d ≠ 0 := fun z => h0 (decide_eq_true (by rw [z]))
      refine ⟨_, rfl, _, rfl, _, rfl, _, _, _, rfl, h0, big600 b1.a b2.b b1.b b2.a, fun p2 H2 _ x2 e2 => k _ _ (x1.trans x2) fun F => ?_⟩
      unfold meetD meetOf
      rw [if_neg h0]
      exact .tup e2 (dd_ints _)
abbrev sDrawn : Stmt := topS 35
theorem scDrawn : FnScope ["deck", "most", "w", "far"] ["deck", "most"] (defScope sDrawn) := ⟨rfl, rfl, rfl, by decide +kernel, rfl, by decide +kernel, by decide +kernel⟩
/-- a drawn place -/
structure Drawn (a b c : Int) : Prop where
  is : isPlace (.tuple [.int a, .int b, .int c]) = true
  x : a.natAbs ≤ 200000000000
  y : b.natAbs ≤ 200000000000
  w : c.natAbs ≤ 7
theorem drawn_of {x y w : Int} (hw : w ≠ 0) (h7 : w.natAbs ≤ 7) (hx : x.natAbs ≤ 200000000000) (hy : y.natAbs ≤ 200000000000) : ∃ a b c, placeOf x y w = [a, b, c] ∧ Drawn a b c := by
  obtain ⟨a, b, c, e, ha, hb, hc⟩ := placeOf_is x y w
  have hp := isPlace_placeOf (x := x) (y := y) hw
  rw [e] at hp
  exact ⟨a, b, c, e, hp, Nat.le_trans ha hx, Nat.le_trans hb hy, Nat.le_trans hc h7⟩
def spDrawn : Sp := fun vs H Q _ => ∃ (d l : Addr) (most : Int), vs = [.ref d, .int most] ∧ 0 ≤ most ∧ most ≤ 100 ∧ Deck d l H ∧
  ∀ (p : Addr) (a b c : Int) (H' : Hp), H p = none → H' p = some (.tup ([a, b, c].map V.int)) → Drawn a b c → Deck d l H' → Kp d l H H' → Q (.ref p) H'
theorem fk_drawn (S : At K mg "_law_drawn_place" sDrawn) (GD : Fk P w K mg base CX0 1 "_law_draw" ["deck", "many"] spDraw) (GP : Fk P w K mg base CX0 2 "_law_pick" ["deck", "some"] spPick) (GL : Fk P w K mg base CX0 3 "_law_place" ["x", "y", "w"] spLPlace) : Fk P w K mg base CX0 4 "_law_drawn_place" ["deck", "most"] spDrawn := by
  obtain ⟨f, fd, F, g⟩ := S.ex
  refine ⟨f, fd, F.ok scDrawn (fun vs H Q E h => ?_) (fun cdv A outer s H vs Q E hr h => ?_), F.binds fun _ _ _ _ _ _ us hl => (match us, hl with | [_, _], _ => rfl), g, F.kp, fun_lk F⟩
  · obtain ⟨d, l, m, rfl, _⟩ := h
    rfl
  · obtain ⟨d, l, most, rfl, m0, m1, D, q⟩ := h
    have h2 : Room 2 (A.deeper (envOfC "_law_drawn_place" (defScope sDrawn) s.heap.objs.size f cdv)) := hr.mono (by decide)
    have h1 : Room 1 (A.deeper (envOfC "_law_drawn_place" (defScope sDrawn) s.heap.objs.size f cdv)) := hr.mono (by decide)
    refine ⟨_, pss_cons (ps_set (i := 2) scDrawn.nd rfl (.inl rfl) (pe_cl GP h2 (by rfl) pass0 (pa_cons (pv 0) (pa_cons (pe_lst (pa_cons pe_int (pa_cons pe_int (pa_cons pe_int (pa_cons pe_int (pa_cons pe_int pa_nil)))))) pa_nil))))
      (Evl.pss_cut (ps_if (PW.pt (pw_and (pt_cmpR op_in_seq (pv 1) (pe_tup (pa_cons pe_int (pa_cons pe_int pa_nil))) (by with_unfolding_all rfl)) (pw_and1 (pt_cmpR op_eq (pe_cl GD h1 (by rfl) pass0 (pa_cons (pv 0) (pa_cons pe_int pa_nil))) pe_int (nomark _)))))
        (pss_cons (ps_set (i := 3) scDrawn.nd rfl (.inl rfl) (pe_cl GP h2 (by rfl) pass0 (pa_cons (pv 0) (pa_cons (pe_lst (pa_cons (pe_op op_pow pe_int pe_int) (pa_cons (pe_un un_neg (pe_op op_pow pe_int pe_int)) pa_nil))) pa_nil))))
        (pss_one (ps_ret (pe_cl GL hr (by rfl) pass0 (pa_cons (pe_op op_add (pv 3) (pe_cl GD h1 (by rfl) pass0 (pa_cons (pv 0) (pa_cons pe_int pa_nil)))) (pa_cons (pe_op op_add (pe_op op_sub (pe_cl GD h1 (by rfl) pass0 (pa_cons (pv 0) (pa_cons pe_int pa_nil))) pe_int) (pe_op op_mul (pv 3) (pe_cl GD h1 (by rfl) pass0 (pa_cons (pv 0) (pa_cons pe_int pa_nil))))) (pa_cons (pv 2) pa_nil))))))) pss_nil)
      (pss_one (ps_ret (pe_cl GL hr (by rfl) pass0 (pa_cons (pe_op op_sub (pe_cl GD h1 (by rfl) pass0 (pa_cons (pv 0) (pa_cons (pe_op op_add (pe_op op_mul (pe_op op_mul pe_int (pv 1)) (pv 2)) pe_int) pa_nil))) (pe_op op_mul (pv 1) (pv 2)))
        (pa_cons (pe_op op_sub (pe_cl GD h1 (by rfl) pass0 (pa_cons (pv 0) (pa_cons (pe_op op_add (pe_op op_mul (pe_op op_mul pe_int (pv 1)) (pv 2)) pe_int) pa_nil))) (pe_op op_mul (pv 1) (pv 2))) (pa_cons (pv 2) pa_nil))))))), ?_⟩
    refine ⟨_, rfl, by show 5 ≤ sizeLine; decide, fun p np => ⟨d, l, p, _, rfl, D.new np, upd_same, (D.off np).1, (D.off np).2, by show 0 < 5; decide, by show 5 ≤ 1000; decide, fun j v H2 hv D2 k2 => ?_⟩⟩
    have k2 := ((Kp.refl (d := d) (l := l) H).new np).trans k2
    have hm : ∃ m : Int, v = .int m ∧ 1 ≤ m ∧ m ≤ 7 :=
      all_cons (p := fun v => ∃ m : Int, v = .int m ∧ 1 ≤ m ∧ m ≤ 7) ⟨_, rfl, by decide, by decide⟩ (all_cons ⟨_, rfl, by decide, by decide⟩ (all_cons ⟨_, rfl, by decide, by decide⟩ (all_cons ⟨_, rfl, by decide, by decide⟩ (all_cons ⟨_, rfl, by decide, by decide⟩ all_nil)))) v (List.mem_of_getElem? hv)
    obtain ⟨m, rfl, w1, w7⟩ := hm
    have nH : ∀ {H' : Hp} {b : Addr}, Deck d l H' → Kp d l H H' → H' b = none → H b = none := fun D' k n => k.back D' n
    have go : ∀ (x y : Int) (H' : Hp), x.natAbs ≤ 200000000000 → y.natAbs ≤ 200000000000 → Deck d l H' → Kp d l H H' → spLPlace [.int x, .int y, .int m] H' Q E0 := fun x y H' hx hy D' k' =>
      ⟨x, y, m, rfl, by omega, Nat.lt_of_le_of_lt (show m.natAbs ≤ 7 by omega) (Nat.lt_of_lt_of_le (by decide : 7 < 2 ^ 10) (Nat.pow_le_pow_right (by decide) (by decide))), fun r H3 nr x3 er => by
        obtain ⟨a, b, c, e, dr⟩ := drawn_of (x := x) (y := y) (w := m) (by omega) (by omega) hx hy
        rw [e] at er
        exact q r a b c H3 (nH D' k' nr) er dr (D'.ex' x3) (k'.trans (Kp.of x3))⟩
    have b2 : 0 < 2 * most * m + 1 ∧ 2 * most * m + 1 ≤ 1500 ∧ 0 ≤ most * m ∧ most * m ≤ 700 := by
      have h1 : 0 ≤ most * m := Int.mul_nonneg m0 (by omega)
      have h2 : most * m ≤ 100 * 7 := Int.mul_le_mul m1 w7 (by omega) (by omega)
      rw [Int.mul_assoc]
      omega
    refine ⟨fun σ' H' => σ' = [some (.ref d), some (.int most), some (.int m), none] ∧ Deck d l H' ∧ Kp d l H H', ?_, ?_⟩
    · refine ⟨_, rfl, by show 2 ≤ sizeLine; decide, fun p2 np2 => ⟨p2, _, rfl, .inr (SqT.of upd_same), rfl, rfl, _, rfl, ?_⟩⟩
      have D3 := D2.new (o := .tup [.int 6, .int 8]) np2
      have k3 := k2.new (o := .tup [.int 6, .int 8]) np2
      generalize upd H2 p2 (.tup [.int 6, .int 8]) = H3 at D3 k3
      refine ite2 (fun _ => ?_) (fun _ => iteF ⟨rfl, D3, k3⟩)
      refine ⟨_, rfl, d, l, 6, rfl, by decide, by decide, D3, fun r H4 _ _ D4 k4 => ⟨rfl, _, rfl, ?_⟩⟩
      have k4 := k3.trans k4
      refine ite2 (fun _ => ?_) (fun _ => ⟨rfl, D4, k4⟩)
      refine ⟨_, rfl, 10, 11, rfl, rfl, ⟨by decide, by decide, by decide⟩, 10, 11, rfl, rfl, ⟨by decide, by decide, by decide⟩, _, rfl, by show 2 ≤ sizeLine; decide, fun p5 np5 => ⟨d, l, p5, _, rfl, D4.new np5, upd_same, (D4.off np5).1, (D4.off np5).2, by show 0 < 2; decide, by show 2 ≤ 1000; decide, fun j v H6 hv D6 k6 => ?_⟩⟩
      have k6 := (k4.new np5).trans k6
      have hf : ∃ f : Int, v = .int f ∧ f.natAbs ≤ 100000000000 := all_cons (p := fun v => ∃ f : Int, v = .int f ∧ f.natAbs ≤ 100000000000) ⟨_, rfl, by decide⟩ (all_cons ⟨_, rfl, by decide⟩ all_nil) v (List.mem_of_getElem? hv)
      obtain ⟨f0, rfl, hf⟩ := hf
      refine ⟨_, rfl, _, rfl, d, l, 9, rfl, by decide, by decide, D6, fun r1 H7 a0 a1 D7 k7 => ⟨_, _, rfl, rfl, ?_⟩⟩
      have k7 := k6.trans k7
      refine ⟨_, rfl, d, l, 9, rfl, by decide, by decide, D7, fun r2 H8 c0 c1 D8 k8 => ⟨_, _, rfl, rfl, _, rfl, _, rfl, d, l, 2, rfl, by decide, by decide, D8, fun r3 H9 e0 e1 D9 k9 => ?_⟩⟩
      have k9 := (k7.trans k8).trans k9
      refine ⟨f0, r3, rfl, rfl, .inr ⟨by omega, by omega⟩, _, _, rfl, rfl, _, rfl, go _ _ _ (by omega) ?_ D9 k9⟩
      have hr3 : r3 = 0 ∨ r3 = 1 := by omega
      rcases hr3 with rfl | rfl
      · rw [Int.mul_zero]
        omega
      · rw [Int.mul_one]
        omega
    · rintro σ' H3 ⟨rfl, D3, k3⟩
      refine ⟨_, rfl, _, rfl, 2, most, rfl, rfl, .inl ⟨by decide, by decide⟩, _, rfl, 2 * most, m, rfl, rfl, .inr ⟨by omega, by omega⟩, _, 1, rfl, rfl, d, l, 2 * most * m + 1, rfl, by omega, lt18 (by omega), D3, fun r1 H4 a0 a1 D4 k4 => ?_⟩
      have k4 := k3.trans k4
      refine ⟨_, rfl, _, rfl, most, m, rfl, rfl, .inr ⟨by omega, by omega⟩, _, _, rfl, rfl, _, rfl, _, rfl, 2, most, rfl, rfl, .inl ⟨by decide, by decide⟩, _, rfl, 2 * most, m, rfl, rfl, .inr ⟨by omega, by omega⟩, _, 1, rfl, rfl, d, l, 2 * most * m + 1, rfl, by omega, lt18 (by omega), D4, fun r2 H5 c0 c1 D5 k5 => ?_⟩
      have k5 := k4.trans k5
      exact ⟨_, rfl, _, rfl, most, m, rfl, rfl, .inr ⟨by omega, by omega⟩, _, _, rfl, rfl, _, rfl, go _ _ _ (by omega) (by omega) D5 k5⟩
end
end Ey
namespace Ey
open PySem PySem.Spec PyProof.Rows L2
/-! ### lines drawn; what meeting tells -/
abbrev sLine : Stmt := topS 37
theorem scLine : FnScope ["deck", "p", "q"] ["deck"] (defScope sLine) := ⟨rfl, rfl, rfl, by decide +kernel, rfl, by decide +kernel, by decide +kernel⟩
theorem Drawn.lt {a b c : Int} (h : Drawn a b c) : Lt63 a b c :=
  ⟨lt6_of (n := 40) (Nat.lt_of_le_of_lt h.x (by decide)) (by decide), lt6_of (n := 40) (Nat.lt_of_le_of_lt h.y (by decide)) (by decide), lt6_of (n := 40) (Nat.lt_of_le_of_lt h.w (by decide)) (by decide)⟩
/-- a line that is not far -/
structure Near (a b c : Int) : Prop where
  is : isLine (.tuple [.int a, .int b, .int c]) = true
  x : a.natAbs < 2 ^ 100
  y : b.natAbs < 2 ^ 100
  w : c.natAbs < 2 ^ 100
theorem near_low {x y z : Int} (h : x ≠ 0 ∨ y ≠ 0) (hx : x.natAbs < 2 ^ 100) (hy : y.natAbs < 2 ^ 100) (hz : z.natAbs < 2 ^ 100) : ∃ a b c, lowest [x, y, z] = [a, b, c] ∧ Near a b c := by
  have hl := isLine_low (z := z) h
  refine ⟨_, _, _, low3 .., ?_, Nat.lt_of_le_of_lt (Int.natAbs_ediv_le_natAbs _ _) hx, Nat.lt_of_le_of_lt (Int.natAbs_ediv_le_natAbs _ _) hy, Nat.lt_of_le_of_lt (Int.natAbs_ediv_le_natAbs _ _) hz⟩
  rw [low3] at hl
  exact hl
theorem drawn40 {n : Int} (h : n.natAbs ≤ 200000000000) : n.natAbs < 2 ^ 40 := Nat.lt_of_le_of_lt h (by decide)
section
variable {P : Program} {w : World} {K : PySem.W.Frag} {mg : Str → Option Value} {base : Heap}
def spLine : Sp := fun vs H Q _ => ∃ (d l : Addr), vs = [.ref d] ∧ Deck d l H ∧ ∀ (p : Addr) (a b c : Int) (H' : Hp), H p = none → H' p = some (.tup ([a, b, c].map V.int)) → Near a b c → Deck d l H' → Kp d l H H' → Q (.ref p) H'
theorem fk_line (S : At K mg "_law_line" sLine) (GD : Fk P w K mg base CX0 4 "_law_drawn_place" ["deck", "most"] spDrawn) (GT : Fk P w K mg base CX0 3 "_law_through" ["p", "q"] spLThr) : Fk P w K mg base CX0 5 "_law_line" ["deck"] spLine := by
  obtain ⟨f, fd, F, g⟩ := S.ex
  refine ⟨f, fd, F.ok scLine (fun vs H Q E h => ?_) (fun cdv A outer s H vs Q E hr h => ?_), F.binds fun _ _ _ _ _ _ us hl => (match us, hl with | [_], _ => rfl), g, F.kp, fun_lk F⟩
  · obtain ⟨d, l, rfl, _⟩ := h
    rfl
  · obtain ⟨d, l, rfl, D, q⟩ := h
    have h3 : Room 3 (A.deeper (envOfC "_law_line" (defScope sLine) s.heap.objs.size f cdv)) := hr.mono (by decide)
    refine ⟨_, pss_cons (ps_par (i := 1) (j := 2) (by rfl) scLine.nd rfl rfl (by decide) rfl rfl (pa_cons (pe_cl GD hr (by rfl) pass0 (pa_cons (pv 0) (pa_cons pe_int pa_nil))) (pa_cons (pe_cl GD hr (by rfl) pass0 (pa_cons (pv 0) (pa_cons pe_int pa_nil))) pa_nil)) (by rfl))
      (pss_one (ps_ret (pe_ifExp (pt_cmpR (op_neD hr.units) (pv 1) (pv 2) (nomark _)) (pe_cl GT h3 (by rfl) pass0 (pa_cons (pv 1) (pa_cons (pv 2) pa_nil))) (pe_tup (pa_cons pe_int (pa_cons (pe_un un_neg pe_int) (pa_cons pe_int pa_nil))))))), ?_⟩
    refine ⟨_, rfl, d, l, 8, rfl, by decide, by decide, D, fun p1 a b c H1 _ e1 d1 D1 k1 => ⟨_, rfl, d, l, 60, rfl, by decide, by decide, D1, fun p2 d' e f' H2 _ e2 d2 D2 k2 => ⟨_, _, rfl, ?_⟩⟩⟩
    have e1 : H2 p1 = some (.tup ([a, b, c].map V.int)) := kp_keep (F := fun _ => False) D1 k2 (fun _ h => h.elim) p1 _ e1 (.inr ⟨_, rfl⟩)
    have k2 := k1.trans k2
    refine ⟨_, rfl, _, rfl, _, _, .tup (SqT.of e1) (dp_ints [a, b, c]), .tup (SqT.of e2) (dp_ints [d', e, f']), shaped_tup [a, b, c], shaped_tup [d', e, f'], _, rfl, ?_⟩
    rw [eqv_ints]
    refine ite2 (fun h => ?_) (fun h => ?_)
    · have hne : [a, b, c] ≠ [d', e, f'] := fun z => by
        rw [decide_eq_true z] at h
        exact absurd h (by decide)
      have hn := cross_line d1.is d2.is hne
      refine ⟨_, rfl, _, rfl, p1, p2, a, b, c, d', e, f', rfl, e1, e2, d1.lt, d2.lt, hn, fun r H3 nr x3 er => ?_⟩
      have big : ∀ {x y z u : Int}, x.natAbs < 2 ^ 40 → y.natAbs < 2 ^ 40 → z.natAbs < 2 ^ 40 → u.natAbs < 2 ^ 40 → (x * y - z * u).natAbs < 2 ^ 100 := fun h1 h2 h3 h4 => Nat.lt_of_lt_of_le (cross_lt h1 h2 h3 h4) (Nat.pow_le_pow_right (by decide) (by decide))
      have a1 := drawn40 d1.x
      have a2 := drawn40 d1.y
      have a3 : c.natAbs < 2 ^ 40 := Nat.lt_of_le_of_lt d1.w (by decide)
      have b1 := drawn40 d2.x
      have b2 := drawn40 d2.y
      have b3 : f'.natAbs < 2 ^ 40 := Nat.lt_of_le_of_lt d2.w (by decide)
      obtain ⟨x, y, z, e0, nr'⟩ := near_low (z := a * e - b * d') hn (big a2 b3 a3 b2) (big a3 b1 a1 b3) (big a1 b2 a2 b1)
      rw [show lowest (crossI a b c d' e f') = [x, y, z] from e0] at er
      exact q r x y z H3 (k2.back D2 nr) er nr' (D2.ex' x3) (k2.trans (Kp.of x3))
    · refine ⟨1, rfl, by show 3 ≤ sizeLine; decide, fun r nr => ?_⟩
      exact q r 1 (-1) 0 _ (k2.back D2 nr) upd_same ⟨by decide, by decide, by decide, by decide⟩ (D2.new nr) (k2.new nr)
/-! what meeting tells -/
abbrev sTold : Stmt := topS 36
theorem scTold : FnScope ["one", "other", "way", "e"] ["one", "other", "way"] (defScope sTold) := ⟨rfl, rfl, rfl, by decide +kernel, rfl, by decide +kernel, by decide +kernel⟩
/-- what is due: the meeting, or the first that is no line -/
def DueM (ea eb D : PyData) : Prop := (∃ a b c d e f : Int, ea = .tuple [.int a, .int b, .int c] ∧ eb = .tuple [.int d, .int e, .int f] ∧ isLine ea = true ∧ isLine eb = true ∧ Lt63 a b c ∧ Lt63 d e f ∧ D = .tuple [.str "told", meetD a b c d e f]) ∨
  (isLine ea = false ∧ D = .tuple [.str "line", ea, .bool true]) ∨ (isLine ea = true ∧ isLine eb = false ∧ D = .tuple [.str "line", eb, .bool true])
def spTold : Sp := fun vs H Q _ => ∃ (va vb : V) (way : Int) (F : Addr → Prop) (ea eb D : PyData), vs = [va, vb, .int way] ∧ Dd F H va ea ∧ Dd F H vb eb ∧ ea.bulk ≤ 7000 ∧ eb.bulk ≤ 7000 ∧ DueM ea eb D ∧ ∀ v H', Evl.Ex H H' → Dd F H' v D → Q v H'
theorem fk_told {C B fI : Addr} (S : At K mg "_law_told" sTold) (T : Blt mg) (X : ErrTxt P K mg "BadLine" "thing" C B fI) (D : ExcC K C) (te : PySem.W.exmOne K (.ref C) (.ref C) = some true) (ki : PySem.W.kitOne K (.ref C) (.ref B) = some true) (gB : mg "EyeError" = some (.ref B))
    (SP : At K mg "meeting" sMeet) (BP : KwOf K "meeting" sMeet ["one", "other"] ["other", "one"] [1, 0]) (GP : Fk P w K mg base (L2.CX P w) 5 "meeting" ["one", "other"] (spMeet C)) :
    Fk P w K mg base CX0 6 "_law_told" ["one", "other", "way"] spTold := by
  obtain ⟨f, fd, F, g⟩ := S.ex
  refine ⟨f, fd, F.ok scTold (fun vs H Q E h => ?_) (fun cdv A outer s H vs Q E hr h => ?_), F.binds fun _ _ _ _ _ _ us hl => (match us, hl with | [_, _, _], _ => rfl), g, F.kp, fun_lk F⟩
  · obtain ⟨va, vb, way, G, ea, eb, D', rfl, _⟩ := h
    rfl
  · obtain ⟨va, vb, way, G, ea, eb, D', rfl, ha, hb, za, zb, hD, q⟩ := h
    refine ⟨_, pss_one (ps_try_as (i := 3) (Wout := fun _ _ _ _ => False) (tb := fun W => tRet (tTup (tCons (tC (.str "told")) (tCons (tIf (tTest (tOp rEq (tVar 2) (tC (.int 0)))) (tCallS (spMeet C) (WE W) (tCons (tVar 0) (tCons (tVar 1) tNil)))
          (tCallKwS 2 [1, 0] (spMeet C) (WE W) (tCons (tVar 1) (tCons (tVar 0) tNil)))) tNil))))
        (ts := fun a cls d => tRet (tTup (tCons (tC (.str "line")) (tCons (tByEr C "thing" a cls d (tVar 3)) (tCons (tCB (rIsEr K C a "thing" cls d) (tCons (tVar 3) (tCons (tC (.ref B)) tNil))) tNil)))))
        rfl rfl scTold.nd rfl rfl ⟨rfl, by decide, Or.inl X.gC⟩ takes0
        (fun W pn xe tk _ => pss_one (ps_ret (pe_tup (pa_cons pe_str (pa_cons (pe_ifExp (pt_cmpR op_eq (pv 2) pe_int (nomark _)) (pe_clS GP hr (by rfl) (fun σ => passAt tk σ) (pa_cons (pv 0) (pa_cons (pv 1) pa_nil)))
          (pe_clkS GP SP BP (by decide) hr (by rfl) (fun σ => passAt tk σ) (pk_cons (pv 1) (pk_cons (pv 0) pk_nil)))) pa_nil)))))
        (fun a oe cls d pn hz hf => pss_one (ps_ret (pe_tup (pa_cons pe_str (pa_cons (pe_byEr X hz hf (pv 3)) (pa_cons (pe_callB (call_isEr D hz hf) (by rfl) T.isinst (by decide +kernel) (pa_cons (pv 3) (pa_cons (pe_glob (by rfl) gB rfl) pa_nil))) pa_nil))))))), ?_⟩
    have yes : ∀ a b c d e f : Int, ea = .tuple [.int a, .int b, .int c] → eb = .tuple [.int d, .int e, .int f] → isLine ea = true → isLine eb = true → Lt63 a b c ∧ Lt63 d e f ∧ ∀ v H1, Evl.Ex H H1 → Dd G H1 v (meetD a b c d e f) →
        [V.str "told", v].length ≤ sizeLine ∧ ∀ t, H1 t = none → Q (.ref t) (upd H1 t (.tup [.str "told", v])) := fun a b c d e f e1 e2 l1 l2 => by
      rcases hD with ⟨a', b', c', d', e', f', f1, f2, _, _, b1, b2, rfl⟩ | ⟨n1, _⟩ | ⟨_, n2, _⟩
      · rw [e1] at f1
        rw [e2] at f2
        cases f1
        cases f2
        exact ⟨b1, b2, fun v H1 x1 hv => ⟨by show 2 ≤ sizeLine; decide, fun t nt => q _ _ (x1.trans (Evl.Ex.new nt)) (.tup upd_same (.cons (.str _) (.cons (hv.keep (new_keep nt)) .nil)))⟩⟩
      · rw [l1] at n1
        cases n1
      · rw [l2] at n2
        cases n2
    have no : ∀ (v : V) (e : PyData), Dd G H v e → D' = .tuple [.str "line", e, .bool true] → ∀ t H1, H1 t = none → Evl.Ex H H1 → Q (.ref t) (upd H1 t (.tup [.str "line", v, .bl true])) := fun v e hv ed t H1 nt x1 => by
      subst ed
      have xt := x1.trans (Evl.Ex.new (o := .tup [.str "line", v, .bl true]) nt)
      exact q _ _ xt (.tup upd_same (.cons (.str _) (.cons (hv.keep (ex_keep xt)) (.cons (.bl _) .nil))))
    have n1 : isLine ea = false → D' = .tuple [.str "line", ea, .bool true] := fun h => by
      rcases hD with ⟨_, _, _, _, _, _, _, _, l1, _⟩ | ⟨_, e⟩ | ⟨l1, _⟩
      · rw [h] at l1; cases l1
      · exact e
      · rw [h] at l1; cases l1
    have n2 : isLine ea = true → isLine eb = false → D' = .tuple [.str "line", eb, .bool true] := fun h1 h => by
      rcases hD with ⟨_, _, _, _, _, _, _, _, _, l2, _⟩ | ⟨l1, _⟩ | ⟨_, _, e⟩
      · rw [h] at l2; cases l2
      · rw [h1] at l1; cases l1
      · exact e
    have suite : ∀ (v : V) (e : PyData), Dd G H v e → D' = .tuple [.str "line", e, .bool true] → ∀ (dd : Addr) (H1 : Hp), H dd = none → Evl.Ex H H1 → H1 dd = some (.xd [(("thing" : Str), v)]) → True := fun _ _ _ _ _ _ _ _ _ => trivial
    refine ⟨_, rfl, rfl, _, rfl, ite2 (fun hw => ?_) (fun hw => ?_)⟩
    · refine ⟨_, rfl, _, rfl, va, vb, G, ea, eb, rfl, ha, hb, za, zb, yes, fun l1 d H1 nd x1 ed => ⟨true, te, fun _ a na => ?_, fun z => by cases z⟩, fun l1 l2 d H1 nd x1 ed => ⟨true, te, fun _ a na => ?_, fun z => by cases z⟩⟩
      · exact ⟨_, rfl, rfl, rfl, d, _, rfl, ed, _, rfl, .ref B, .ref B, true, d, _, rfl, rfl, rfl, ed, fun u r => r, ki, by show 3 ≤ sizeLine; decide, fun t nt => no va ea ha (n1 l1) t H1 nt x1⟩
      · exact ⟨_, rfl, rfl, rfl, d, _, rfl, ed, _, rfl, .ref B, .ref B, true, d, _, rfl, rfl, rfl, ed, fun u r => r, ki, by show 3 ≤ sizeLine; decide, fun t nt => no vb eb hb (n2 l1 l2) t H1 nt x1⟩
    · refine ⟨_, rfl, _, rfl, rfl, va, vb, G, ea, eb, rfl, ha, hb, za, zb, yes, fun l1 d H1 nd x1 ed => ⟨true, te, fun _ a na => ?_, fun z => by cases z⟩, fun l1 l2 d H1 nd x1 ed => ⟨true, te, fun _ a na => ?_, fun z => by cases z⟩⟩
      · exact ⟨_, rfl, rfl, rfl, d, _, rfl, ed, _, rfl, .ref B, .ref B, true, d, _, rfl, rfl, rfl, ed, fun u r => r, ki, by show 3 ≤ sizeLine; decide, fun t nt => no va ea ha (n1 l1) t H1 nt x1⟩
      · exact ⟨_, rfl, rfl, rfl, d, _, rfl, ed, _, rfl, .ref B, .ref B, true, d, _, rfl, rfl, rfl, ed, fun u r => r, ki, by show 3 ≤ sizeLine; decide, fun t nt => no vb eb hb (n2 l1 l2) t H1 nt x1⟩
end
end Ey
namespace Ey
open PySem PySem.Spec PyProof.Rows L2
/-! ### the meeting is on both lines -/
theorem dot_one (a b c d e f : Int) : a * (b * f - c * e) + b * (c * d - a * f) + c * (a * e - b * d) = 0 := by grind
theorem dot_two (a b c d e f : Int) : d * (b * f - c * e) + e * (c * d - a * f) + f * (a * e - b * d) = 0 := by grind
theorem dot_low {a b c x y w : Int} (hw : w ≠ 0) (h : a * x + b * y + c * w = 0) : ∀ X Y W, lowest [x, y, w] = [X, Y, W] → a * X + b * Y + c * W = 0 := by
  intro X Y W e
  obtain ⟨g0, _⟩ := gl_le (ns := [x, y, w]) (x := w) (by simp) hw
  rw [low3] at e
  have k1 : x = X * ((gl [x, y, w] : Nat) : Int) := by
    have := Int.ediv_mul_cancel (dvd_gl (ns := [x, y, w]) (x := x) (by simp))
    rw [← (List.cons.inj e).1]
    omega
  have k2 : y = Y * ((gl [x, y, w] : Nat) : Int) := by
    have := Int.ediv_mul_cancel (dvd_gl (ns := [x, y, w]) (x := y) (by simp))
    rw [← (List.cons.inj (List.cons.inj e).2).1]
    omega
  have k3 : w = W * ((gl [x, y, w] : Nat) : Int) := by
    have := Int.ediv_mul_cancel (dvd_gl (ns := [x, y, w]) (x := w) (by simp))
    rw [← (List.cons.inj (List.cons.inj (List.cons.inj e).2).2).1]
    omega
  have hg : ((gl [x, y, w] : Nat) : Int) ≠ 0 := by omega
  generalize ((gl [x, y, w] : Nat) : Int) = g at k1 k2 k3 hg
  have : (a * X + b * Y + c * W) * g = 0 := by
    rw [← h, k1, k2, k3]
    grind
  rcases Int.mul_eq_zero.mp this with h | h
  · exact h
  · exact absurd h hg
theorem dot_placeOf {a b c x y w : Int} (hw : w ≠ 0) (h : a * x + b * y + c * w = 0) {X Y W : Int} (e : placeOf x y w = [X, Y, W]) : a * X + b * Y + c * W = 0 := by
  by_cases g : 0 < w
  · rw [placeOf_pos g] at e
    exact dot_low hw h _ _ _ e
  · rw [placeOf_neg g] at e
    refine dot_low (by omega) ?_ _ _ _ e
    rw [Int.mul_neg, Int.mul_neg, Int.mul_neg]
    omega
theorem meetOf_neg (x y w : Int) : meetOf (-x) (-y) (-w) = meetOf x y w := by
  unfold meetOf
  by_cases h : w = 0
  · subst h
    rw [if_pos rfl, if_pos (by decide)]
  · rw [if_neg h, if_neg (by omega)]
    have := placeOf_mul (x := x) (y := y) (w := w) (t := -1) h (by decide)
    rw [Int.mul_neg_one, Int.mul_neg_one, Int.mul_neg_one] at this
    rw [this]
theorem meet_swap (a b c d e f : Int) : meetD d e f a b c = meetD a b c d e f := by
  unfold meetD
  rw [← meetOf_neg (b * f - c * e)]
  congr 1 <;> grind
theorem meet_back (a b c d e f : Int) : meetD (-a) (-b) (-c) d e f = meetD a b c d e f := by
  unfold meetD
  rw [← meetOf_neg (b * f - c * e)]
  congr 1 <;> grind
theorem ib3 {a b c : Int} (h : ibD (.tuple [.int a, .int b, .int c]) = true) : a.natAbs < 2 ^ 250 ∧ b.natAbs < 2 ^ 250 ∧ c.natAbs < 2 ^ 250 := by
  simp only [ibD, ibAll, Bool.and_eq_true, decide_eq_true_eq] at h
  exact ⟨h.1, h.2.1, h.2.2.1⟩
theorem ib_lt {a b c : Int} (h : a.natAbs < 2 ^ 250 ∧ b.natAbs < 2 ^ 250 ∧ c.natAbs < 2 ^ 250) : Lt63 a b c := ⟨lt6_of h.1 (by decide), lt6_of h.2.1 (by decide), lt6_of h.2.2 (by decide)⟩
theorem log501 {n : Nat} (h : n < 2 ^ 501) : n.log2 < 1920 := log2_small (Nat.lt_of_lt_of_le h (Nat.pow_le_pow_right (by decide) (by decide)))
theorem rz_three {x y z : Int} (hx : x.natAbs.log2 < 1920) (hy : y.natAbs.log2 < 1920) (hz : z.natAbs.log2 < 1920) : Rz 3 1 (.tuple [.int x, .int y, .int z]) :=
  ((rza_cons (rz_int hx) (rza_cons (rz_int hy) (rza_cons (rz_int hz) rza_nil))).tuple).mono (by decide) (by decide)
theorem rz_meetOf {x y w : Int} (hx : x.natAbs < 2 ^ 501) (hy : y.natAbs < 2 ^ 501) (hw : w.natAbs < 2 ^ 501) : Rz 3 1 (meetOf x y w) := by
  unfold meetOf
  split
  · exact sz_none.toRz.mono (by decide) (by decide)
  · obtain ⟨X, Y, W, e, h1, h2, h3⟩ := placeOf_is x y w
    rw [e]
    exact rz_three (log_le h1 (log501 hx)) (log_le h2 (log501 hy)) (log_le h3 (log501 hw))
theorem rz_meetD {a b c d e f : Int} (h : a.natAbs < 2 ^ 250 ∧ b.natAbs < 2 ^ 250 ∧ c.natAbs < 2 ^ 250) (k : d.natAbs < 2 ^ 250 ∧ e.natAbs < 2 ^ 250 ∧ f.natAbs < 2 ^ 250) : Rz 3 1 (meetD a b c d e f) :=
  rz_meetOf (cross_lt h.2.1 k.2.2 h.2.2 k.2.1) (cross_lt h.2.2 k.1 h.1 k.2.2) (cross_lt h.1 k.2.1 h.2.1 k.1)
section
variable {P : Program} {w : World} {K : PySem.W.Frag}
theorem meet_go {C : Addr} {F : Addr → Prop} {H : Hp} {Q : VK} {E : XK} {va vb : V} {a b c d e f : Int} (ha : Dd F H va (.tuple [.int a, .int b, .int c])) (hb : Dd F H vb (.tuple [.int d, .int e, .int f])) (la : isLine (.tuple [.int a, .int b, .int c]) = true) (lb : isLine (.tuple [.int d, .int e, .int f]) = true)
    (b1 : Lt63 a b c) (b2 : Lt63 d e f) (q : ∀ v H', Evl.Ex H H' → Dd F H' v (meetD a b c d e f) → Q v H') : spMeet C [va, vb] H Q E := by
  refine ⟨va, vb, F, _, _, rfl, ha, hb, by simp [PyData.bulk, PyData.bulkAll], by simp [PyData.bulk, PyData.bulkAll], fun a' b' c' d' e' f' e1 e2 _ _ => ?_, fun h => ?_, fun _ h => ?_⟩
  · cases e1
    cases e2
    exact ⟨b1, b2, q⟩
  · rw [la] at h
    cases h
  · rw [lb] at h
    cases h
theorem side_go {CL CP : Addr} {F : Addr → Prop} {H : Hp} {Q : VK} {E : XK} {va vb : V} {a b c d e f : Int} (ha : Dd F H va (.tuple [.int a, .int b, .int c])) (hb : Dd F H vb (.tuple [.int d, .int e, .int f])) (la : isLine (.tuple [.int a, .int b, .int c]) = true) (lb : isPlace (.tuple [.int d, .int e, .int f]) = true)
    (b1 : Lt63 a b c) (b2 : Lt63 d e f) (q : ∀ H', Evl.Ex H H' → Q (.int (sgn (a * d + b * e + c * f))) H') : spSide CL CP [va, vb] H Q E := by
  refine ⟨va, vb, F, _, _, rfl, ha, hb, by simp [PyData.bulk, PyData.bulkAll], by simp [PyData.bulk, PyData.bulkAll], fun a' b' c' d' e' f' e1 e2 _ _ => ?_, fun h => ?_, fun _ h => ?_⟩
  · cases e1
    cases e2
    exact ⟨b1, b2, q⟩
  · rw [la] at h
    cases h
  · rw [lb] at h
    cases h
end
end Ey
namespace Ey
open PySem PySem.Spec PyProof.Rows L2
/-! ### the law -/
abbrev sLaw : Stmt := topS 38
theorem scLaw : FnScope ["script", "deck", "turn", "one", "other", "wrong", "due", "back", "thing"] ["script"] (defScope sLaw) := ⟨rfl, rfl, rfl, by decide +kernel, rfl, by decide +kernel, by decide +kernel⟩
theorem str_same {x : Str} : (!decide (V.str x = V.str x)) = false := by rw [decide_eq_true rfl] <;> rfl
abbrev off (d l : Addr) : Addr → Prop := fun b => b ≠ d ∧ b ≠ l
theorem Near.lt {a b c : Int} (h : Near a b c) : Lt63 a b c := ⟨lt6_of h.x (by decide), lt6_of h.y (by decide), lt6_of h.w (by decide)⟩
/-- two lines stand -/
def M1 (a d l : Addr) (σ : L2.St) (H : Hp) : Prop := ∃ (t : Option V) (p q : Addr) (x1 y1 z1 x2 y2 z2 : Int) (w du b th : Option V), σ = [some (.ref a), some (.ref d), t, some (.ref p), some (.ref q), w, du, b, th] ∧ Deck d l H ∧ H p = some (.tup ([x1, y1, z1].map V.int)) ∧ H q = some (.tup ([x2, y2, z2].map V.int)) ∧
  Near x1 y1 z1 ∧ (∃ n : Nat, n = 0) ∧ isLine (.tuple [.int x2, .int y2, .int z2]) = true ∧ x2.natAbs < 2 ^ 102 ∧ y2.natAbs < 2 ^ 102 ∧ z2.natAbs < 2 ^ 102
/-- the first one may be bent -/
def M2 (a d l : Addr) (σ : L2.St) (H : Hp) : Prop := ∃ (t : Option V) (v : V) (e : PyData) (q : Addr) (x2 y2 z2 : Int) (w du b th : Option V), σ = [some (.ref a), some (.ref d), t, some v, some (.ref q), w, du, b, th] ∧ Deck d l H ∧ Dd (off d l) H v e ∧ Sz 600 20 e ∧ H q = some (.tup ([x2, y2, z2].map V.int)) ∧
  x2.natAbs < 2 ^ 102 ∧ y2.natAbs < 2 ^ 102 ∧ z2.natAbs < 2 ^ 102
/-- both may be bent -/
structure Two (d l : Addr) (H : Hp) (v u : V) (e f : PyData) : Prop where
  x : Dd (off d l) H v e
  y : Dd (off d l) H u f
  sx : Sz 600 20 e
  sy : Sz 600 20 f
theorem Two.keep {d l : Addr} {H H' : Hp} {v u : V} {e f : PyData} (t : Two d l H v u e f) (k : ∀ a o, H a = some o → (off d l a ∨ ∃ xs, o = .tup xs) → H' a = some o) : Two d l H' v u e f := ⟨t.x.keep k, t.y.keep k, t.sx, t.sy⟩
def M3 (a d l : Addr) (σ : L2.St) (H : Hp) : Prop := ∃ (t : Option V) (v u : V) (e f : PyData) (w du b th : Option V), σ = [some (.ref a), some (.ref d), t, some v, some u, w, du, b, th] ∧ Deck d l H ∧ Two d l H v u e f
/-- the wrong ones -/
def wrongs (v u : V) (e f : PyData) : List V := (if isLine e = true then [] else [v]) ++ (if isLine f = true then [] else [u])
def M4 (a d l : Addr) (σ : L2.St) (H : Hp) : Prop := ∃ (t : Option V) (v u : V) (e f : PyData) (p : Addr) (du b th : Option V), σ = [some (.ref a), some (.ref d), t, some v, some u, some (.ref p), du, b, th] ∧ Deck d l H ∧ Two d l H v u e f ∧ H p = some (.lst (wrongs v u e f)) ∧ p ≠ d ∧ p ≠ l
def M5 (a d l : Addr) (σ : L2.St) (H : Hp) : Prop := ∃ (t : Option V) (v u : V) (e f : PyData) (p : Addr) (dv : V) (D : PyData) (b th : Option V), σ = [some (.ref a), some (.ref d), t, some v, some u, some (.ref p), some dv, b, th] ∧ Deck d l H ∧ Two d l H v u e f ∧ H p = some (.lst (wrongs v u e f)) ∧ DueM e f D ∧ Dd (off d l) H dv D ∧ Rz 700 25 D
theorem wrongs_nil {v u : V} {e f : PyData} (h : (wrongs v u e f).isEmpty = true) : isLine e = true ∧ isLine f = true := by
  unfold wrongs at h
  by_cases h1 : isLine e = true
  · by_cases h2 : isLine f = true
    · exact ⟨h1, h2⟩
    · rw [if_pos h1, if_neg h2] at h
      cases h
  · rw [if_neg h1] at h
    split at h <;> cases h
theorem tup_kp {d l p : Addr} {H H' : Hp} {xs : List V} (D : Deck d l H) (k : Kp d l H H') (e : H p = some (.tup xs)) : H' p = some (.tup xs) := kp_keep (F := fun _ => False) D k (fun _ h => h.elim) p _ e (.inr ⟨_, rfl⟩)
theorem dd_pair {F : Addr → Prop} {H : Hp} {v : V} {X : PyData} (h : Dd F H v (.tuple [.str "told", X])) : ∃ p vm, v = .ref p ∧ H p = some (.tup [.str "told", vm]) ∧ Dd F H vm X := by
  cases h with
  | tup e r =>
    cases r with
    | cons a r =>
      cases r with
      | cons b r =>
        cases r
        cases a
        exact ⟨_, _, rfl, e, b⟩
section
variable {P : Program} {w : World} {K : PySem.W.Frag} {mg : Str → Option Value} {base : Heap}
theorem law_ok {CL CP fa : Addr} {fd : FuncData} (F : Fun K "law" "law" sLaw fa fd) (T : Blt mg) (GK : Fk P w K mg base CX0 1 "_law_deck" ["script", "seed"] (spDeck K)) (GD : Fk P w K mg base CX0 1 "_law_draw" ["deck", "many"] spDraw) (GP : Fk P w K mg base CX0 2 "_law_pick" ["deck", "some"] spPick)
    (GB : Fk P w K mg base CX0 8 "_law_bent" ["deck", "thing", "deep"] (spBent true)) (GN : Fk P w K mg base CX0 5 "_law_line" ["deck"] spLine) (GE : Fk P w K mg base CX0 2 "_law_least" ["row"] (spLeast K)) (GI : Fk P w K mg base CX0 3 "_law_is_line" ["thing"] (spIs isLine)) (GM : Fk P w K mg base CX0 4 "_law_meeting" ["one", "other"] spLMeet)
    (GT : Fk P w K mg base CX0 6 "_law_told" ["one", "other", "way"] spTold) (QM : Fk P w K mg base (L2.CX P w) 5 "meeting" ["one", "other"] (spMeet CL)) (Q1 : Fk P w K mg base CX0 3 "is_place" ["thing"] (spIsB isPlace)) (QS : Fk P w K mg base (L2.CX P w) 5 "side" ["line", "p"] (spSide CL CP)) : LawOk P w K mg base fa := by
  intro s H a ns e0 hS hl
  have bL := F.binds (ps := ["script"]) fun _ _ _ _ _ _ us hl => (match us, hl with | [_], _ => rfl)
  refine fn_at (k := 9) F scLaw ⟨rfl, by decide, by decide⟩ (vs := [.ref a]) rfl e0 (bL s [.ref a] (e0.mod.kin.keeps fun b o e => (e0.bs b o e).1) rfl) (.cons rfl .nil) fun cdv => ?_
  have hr : Room 9 (callerA.deeper (envOfC "law" (defScope sLaw) s.heap.objs.size fa cdv)) := Room.deeper ⟨rfl, by decide, by decide⟩ _
  have h8 := hr.mono (by decide : 8 ≤ 9)
  have h6 := hr.mono (by decide : 6 ≤ 9)
  have h5 := hr.mono (by decide : 5 ≤ 9)
  have h4 := hr.mono (by decide : 4 ≤ 9)
  have h3 := hr.mono (by decide : 3 ≤ 9)
  have h2 := hr.mono (by decide : 2 ≤ 9)
  have h1 := hr.mono (by decide : 1 ≤ 9)
  refine ⟨_, pss_cons (ps_set (i := 1) scLaw.nd rfl (.inl rfl) (pe_cl GK h1 (by rfl) pass0 (pa_cons (pv 0) (pa_cons pe_int pa_nil))))
    (pss_cons (ps_for PassesOwn.never rfl (pi_range1 rfl T.range (pa_cons pe_int pa_nil)) (pg_name (i := 2) scLaw.nd rfl (.inl rfl))
      (pss_cons (ps_set (i := 3) scLaw.nd rfl (.inl rfl) (pe_cl GN h5 (by rfl) pass0 (pa_cons (pv 1) pa_nil)))
      (Evl.pss_cut (ps_set (i := 4) scLaw.nd rfl (.inl rfl) (pe_cl GP h2 (by rfl) pass0 (pa_cons (pv 1) (pa_cons (pe_lst (pa_cons (pe_cl GN h5 (by rfl) pass0 (pa_cons (pv 1) pa_nil)) (pa_cons (pe_cl GN h5 (by rfl) pass0 (pa_cons (pv 1) pa_nil)) (pa_cons (pv 3)
          (pa_cons (pe_tup (pa_cons (pe_un un_neg (pe_ix ix_tup (pv 3) pe_int (fun _ _ => rfl))) (pa_cons (pe_un un_neg (pe_ix ix_tup (pv 3) pe_int (fun _ _ => rfl))) (pa_cons (pe_un un_neg (pe_ix ix_tup (pv 3) pe_int (fun _ _ => rfl))) pa_nil))))
          (pa_cons (pe_cl GE h2 (by rfl) pass0 (pa_cons (pe_tup (pa_cons (pe_ix ix_tup (pv 3) pe_int (fun _ _ => rfl)) (pa_cons (pe_ix ix_tup (pv 3) pe_int (fun _ _ => rfl)) (pa_cons (pe_op op_add (pe_ix ix_tup (pv 3) pe_int (fun _ _ => rfl)) pe_int) pa_nil)))) pa_nil)) pa_nil)))))) pa_nil))))
      (Evl.pss_cut (ps_if (pt_cmpR op_eq (pe_cl GD h1 (by rfl) pass0 (pa_cons (pv 1) (pa_cons pe_int pa_nil))) pe_int (nomark _)) (pss_one (ps_set (i := 3) scLaw.nd rfl (.inl rfl) (pe_cl GB h8 (by rfl) pass0 (pa_cons (pv 1) (pa_cons (pv 3) (pa_cons pe_int pa_nil)))))) pss_nil)
      (Evl.pss_cut (ps_if (pt_cmpR op_eq (pe_cl GD h1 (by rfl) pass0 (pa_cons (pv 1) (pa_cons pe_int pa_nil))) pe_int (nomark _)) (pss_one (ps_set (i := 4) scLaw.nd rfl (.inl rfl) (pe_cl GP h2 (by rfl) pass0 (pa_cons (pv 1) (pa_cons (pe_lst (pa_cons (pe_cl GB h8 (by rfl) pass0 (pa_cons (pv 1) (pa_cons (pv 4) (pa_cons pe_int pa_nil))))
          (pa_cons pe_non (pa_cons (pe_slice sl_tupA (pv 4) po_none (po_some pe_int)) (pa_cons (pv 3) pa_nil))))) pa_nil))))) pss_nil)
      (Evl.pss_cut (ps_setLc (i := 5) (own := [("thing", 8)]) (g := gName 8) rfl scLaw.nd rfl rfl (sw_true rfl rfl rfl (by decide +kernel)) (pi_tup (pe_tup (pa_cons (pv 3) (pa_cons (pv 4) pa_nil))))
          (blkOk_by (own := [("thing", 8)]) (N := ["script", "deck", "turn", "one", "other", "wrong", "due", "back", "thing"]) (sc := defScope sLaw) (by decide +kernel)) (fun _ _ _ _ _ => pg_name (i := 8) scLaw.nd rfl (Or.inl rfl))
          (fun _ _ _ _ _ => pts_one (pt_not (pt_val (pe_cl GI h3 (by rfl) pass0 (pa_cons (pv 8) pa_nil))))) (fun _ _ _ _ _ => pv 8))
      (Evl.pss_cut (ps_set (i := 6) scLaw.nd rfl (.inl rfl) (pe_ifExp (pt_cmpR (op_eqNil hr.units0) (pv 5) (pe_lst pa_nil) (nomark _)) (pe_tup (pa_cons pe_str (pa_cons (pe_cl GM h4 (by rfl) pass0 (pa_cons (pv 3) (pa_cons (pv 4) pa_nil))) pa_nil)))
          (pe_tup (pa_cons pe_str (pa_cons (pe_ix ix_list (pv 5) pe_int (fun _ _ => rfl)) (pa_cons pe_bl pa_nil))))))
      (pss_cons (ps_if (pt_cmpR op_ne (pe_callB (cr_repr rfl hr.units) (by rfl) T.repr (by decide +kernel) (pa_cons (pe_tup (pa_cons (pe_cl GT h6 (by rfl) pass0 (pa_cons (pv 3) (pa_cons (pv 4) (pa_cons pe_int pa_nil)))) (pa_cons (pe_cl GT h6 (by rfl) pass0 (pa_cons (pv 3) (pa_cons (pv 4) (pa_cons pe_int pa_nil)))) pa_nil))) pa_nil))
          (pe_callB (cr_repr rfl hr.units) (by rfl) T.repr (by decide +kernel) (pa_cons (pe_tup (pa_cons (pv 6) (pa_cons (pv 6) pa_nil))) pa_nil)) (nomark _)) (pss_one (ps_ret pe_bl)) pss_nil)
      (pss_one (ps_if (pt_cmpR (op_eqNil hr.units0) (pv 5) (pe_lst pa_nil) (nomark _))
        (pss_cons (ps_set (i := 7) scLaw.nd rfl (.inl rfl) (pe_tup (pa_cons (pe_un un_neg (pe_ix ix_tup (pv 3) pe_int (fun _ _ => rfl))) (pa_cons (pe_un un_neg (pe_ix ix_tup (pv 3) pe_int (fun _ _ => rfl))) (pa_cons (pe_un un_neg (pe_ix ix_tup (pv 3) pe_int (fun _ _ => rfl))) pa_nil)))))
        (pss_cons (ps_if (pt_cmpR op_ne (pe_callB (cr_repr rfl hr.units) (by rfl) T.repr (by decide +kernel) (pa_cons (pe_tup (pa_cons (pe_cl QM h5 (by rfl) passF (pa_cons (pv 4) (pa_cons (pv 3) pa_nil))) (pa_cons (pe_cl QM h5 (by rfl) passF (pa_cons (pv 7) (pa_cons (pv 4) pa_nil))) pa_nil))) pa_nil))
            (pe_callB (cr_repr rfl hr.units) (by rfl) T.repr (by decide +kernel) (pa_cons (pe_tup (pa_cons (pe_ix ix_tup (pv 6) pe_int (fun _ _ => rfl)) (pa_cons (pe_ix ix_tup (pv 6) pe_int (fun _ _ => rfl)) pa_nil))) pa_nil)) (nomark _)) (pss_one (ps_ret pe_bl)) pss_nil)
        (pss_one (ps_if (PW.pt (pw_and (pt_cmpR op_notN (pe_ix ix_tup (pv 6) pe_int (fun _ _ => rfl)) pe_non (nomark _)) (pw_and1 (pt_cmpR (op_neD hr.units) (pe_tup (pa_cons (pe_cl Q1 h3 (by rfl) pass0 (pa_cons (pe_ix ix_tup (pv 6) pe_int (fun _ _ => rfl)) pa_nil))
            (pa_cons (pe_cl QS h5 (by rfl) passF (pa_cons (pv 3) (pa_cons (pe_ix ix_tup (pv 6) pe_int (fun _ _ => rfl)) pa_nil))) (pa_cons (pe_cl QS h5 (by rfl) passF (pa_cons (pv 4) (pa_cons (pe_ix ix_tup (pv 6) pe_int (fun _ _ => rfl)) pa_nil))) pa_nil))))
            (pe_tup (pa_cons pe_bl (pa_cons pe_int (pa_cons pe_int pa_nil)))) (nomark _))))) (pss_one (ps_ret pe_bl)) pss_nil))))
        pss_nil))))))))))
    (pss_one (ps_ret pe_bl))), ?_⟩
  refine ⟨_, rfl, a, ns, _, rfl, hS, hl, fun d l H0 D0 x0 _ _ => ?_⟩
  refine ⟨8, rfl, by decide, by decide, for_range (lo := 0) (n := 8) (fun _ σ H' => ∃ t x y w du b th, σ = [some (.ref a), some (.ref d), t, x, y, w, du, b, th] ∧ Deck d l H') ⟨none, none, none, none, none, none, none, rfl, D0⟩ (fun i σ H' hi h => ?_) (fun σ H' h => rfl)⟩
  obtain ⟨t, x, y, w, du, b, th, rfl, D⟩ := h
  -- one
  refine ⟨_, rfl, d, l, rfl, D, fun p x1 y1 z1 H1 _ ep n1 D1 _ => ⟨M1 a d l, ?_, ?_⟩⟩
  · refine ⟨_, rfl, _, rfl, d, l, rfl, D1, fun p2 x2 y2 z2 H2 _ ep2 n2 D2 k2 => ⟨_, rfl, d, l, rfl, D2, fun p3 x3 y3 z3 H3 _ ep3 n3 D3 k3 => ?_⟩⟩
    have ep := tup_kp D2 k3 (tup_kp D1 k2 ep)
    have ep2 := tup_kp D2 k3 ep2
    have sp := SqT.of (K := K) ep
    refine ⟨_, rfl, _, rfl, p, _, 0, _, rfl, rfl, sp, at30, x1, rfl, _, rfl, p, _, 1, _, rfl, rfl, sp, at31, y1, rfl, _, rfl, p, _, 2, _, rfl, rfl, sp, at32, z1, rfl, by show 3 ≤ sizeLine; decide, fun p4 np4 => ?_⟩
    have xA := Evl.Ex.new (o := .tup [.int (-x1), .int (-y1), .int (-z1)]) np4
    have DA := D3.new (o := .tup [.int (-x1), .int (-y1), .int (-z1)]) np4
    have ep4 : (upd H3 p4 (.tup [.int (-x1), .int (-y1), .int (-z1)])) p4 = some (.tup ([-x1, -y1, -z1].map V.int)) := upd_same
    generalize upd H3 p4 (.tup [.int (-x1), .int (-y1), .int (-z1)]) = HA at xA DA ep4
    have sp := SqT.of (K := K) (xA _ _ ep)
    refine ⟨_, rfl, p, _, 0, _, rfl, rfl, sp, at30, _, rfl, p, _, 1, _, rfl, rfl, sp, at31, _, rfl, p, _, 2, _, rfl, rfl, sp, at32, z1, 5, rfl, rfl, by show 3 ≤ sizeLine; decide, fun p5 np5 => ?_⟩
    have xB := Evl.Ex.new (o := .tup [.int x1, .int y1, .int (z1 + 5)]) np5
    have DB := DA.new (o := .tup [.int x1, .int y1, .int (z1 + 5)]) np5
    have ep5 : (upd HA p5 (.tup [.int x1, .int y1, .int (z1 + 5)])) p5 = some (.tup ([x1, y1, z1 + 5].map V.int)) := upd_same
    generalize upd HA p5 (.tup [.int x1, .int y1, .int (z1 + 5)]) = HB at xB DB ep5
    have hxy := (isLine_def.mp n1.is).1
    have b1 := n1.x
    have b2 := n1.y
    have b3 := n1.w
    have up : ∀ {n : Int}, n.natAbs < 2 ^ 100 → n.natAbs < 2 ^ 101 := fun h => Nat.lt_of_lt_of_le h (Nat.pow_le_pow_right (by decide) (by decide))
    have b4 : (z1 + 5).natAbs < 2 ^ 101 := add_lt b3 (by decide)
    have g0 : 0 < gl [x1, y1, z1 + 5] ∧ gl [x1, y1, z1 + 5] < 2 ^ 2100 := by
      rcases hxy with h | h
      · obtain ⟨k1, k2⟩ := gl_le (ns := [x1, y1, z1 + 5]) (x := x1) (by simp) h
        exact ⟨k1, Nat.lt_of_le_of_lt k2 (Nat.lt_of_lt_of_le b1 (Nat.pow_le_pow_right (by decide) (by decide)))⟩
      · obtain ⟨k1, k2⟩ := gl_le (ns := [x1, y1, z1 + 5]) (x := y1) (by simp) h
        exact ⟨k1, Nat.lt_of_le_of_lt k2 (Nat.lt_of_lt_of_le b2 (Nat.pow_le_pow_right (by decide) (by decide)))⟩
    refine ⟨p5, _, rfl, SqT.of ep5, by show 3 ≤ 100; decide, g0.1, g0.2, fun p6 H6 _ x6 ep6 => ?_⟩
    have DC := DB.ex' x6
    refine ⟨by show 5 ≤ sizeLine; decide, fun p7 np7 => ?_⟩
    refine ⟨d, l, p7, _, rfl, DC.new np7, upd_same, (DC.off np7).1, (DC.off np7).2, by show 0 < 5; decide, by show 5 ≤ 1000; decide, fun j v H8 hv D8 k8 => ?_⟩
    have u6 : Evl.Ex H3 H6 := (xA.trans xB).trans x6
    have up2 : ∀ {n : Int}, n.natAbs < 2 ^ 100 → n.natAbs < 2 ^ 102 := fun h => Nat.lt_of_lt_of_le h (Nat.pow_le_pow_right (by decide) (by decide))
    have up3 : ∀ {n : Int}, n.natAbs < 2 ^ 101 → n.natAbs < 2 ^ 102 := fun h => Nat.lt_of_lt_of_le h (Nat.pow_le_pow_right (by decide) (by decide))
    have hL : ∃ q x y z, v = .ref q ∧ H6 q = some (.tup ([x, y, z].map V.int)) ∧ isLine (.tuple [.int x, .int y, .int z]) = true ∧ x.natAbs < 2 ^ 102 ∧ y.natAbs < 2 ^ 102 ∧ z.natAbs < 2 ^ 102 := by
      have hlow := isLine_low (z := z1 + 5) hxy
      rw [low3] at ep6 hlow
      refine all_cons (p := fun v => ∃ q x y z, v = V.ref q ∧ H6 q = some (.tup ([x, y, z].map V.int)) ∧ isLine (.tuple [.int x, .int y, .int z]) = true ∧ x.natAbs < 2 ^ 102 ∧ y.natAbs < 2 ^ 102 ∧ z.natAbs < 2 ^ 102)
        ⟨p2, x2, y2, z2, rfl, u6 _ _ ep2, n2.is, up2 n2.x, up2 n2.y, up2 n2.w⟩ (all_cons ⟨p3, x3, y3, z3, rfl, u6 _ _ ep3, n3.is, up2 n3.x, up2 n3.y, up2 n3.w⟩ (all_cons ⟨p, x1, y1, z1, rfl, u6 _ _ ep, n1.is, up2 n1.x, up2 n1.y, up2 n1.w⟩
        (all_cons ⟨p4, -x1, -y1, -z1, rfl, (xB.trans x6) _ _ ep4, isLine_neg n1.is, by rw [Int.natAbs_neg]; exact up2 b1, by rw [Int.natAbs_neg]; exact up2 b2, by rw [Int.natAbs_neg]; exact up2 b3⟩ (all_cons ⟨p6, _, _, _, rfl, ep6, hlow, ?_, ?_, ?_⟩ all_nil)))) v (List.mem_of_getElem? hv)
      · exact Nat.lt_of_le_of_lt (Int.natAbs_ediv_le_natAbs _ _) (up2 b1)
      · exact Nat.lt_of_le_of_lt (Int.natAbs_ediv_le_natAbs _ _) (up2 b2)
      · exact Nat.lt_of_le_of_lt (Int.natAbs_ediv_le_natAbs _ _) (up3 b4)
    obtain ⟨q, x, y, z, rfl, eq, lq, c1, c2, c3⟩ := hL
    have k78 : Kp d l H6 H8 := ((Kp.refl H6).new np7).trans k8
    exact ⟨_, p, q, x1, y1, z1, x, y, z, w, du, b, th, rfl, D8, tup_kp DC k78 (u6 _ _ ep), tup_kp DC k78 eq, n1, ⟨0, rfl⟩, lq, c1, c2, c3⟩
  rintro σ1 H1 ⟨t, p, q, x1, y1, z1, x2, y2, z2, w, du, b, th, rfl, D1, ep, eq, n1, _, l2, c1, c2, c3⟩
  refine ⟨M2 a d l, ?_, ?_⟩
  · refine ⟨_, rfl, d, l, 4, rfl, by decide, by decide, D1, fun r H2 _ _ D2 k2 => ⟨rfl, _, rfl, ?_⟩⟩
    have ep := tup_kp D1 k2 ep
    have eq := tup_kp D1 k2 eq
    have bn : Bnd [x1, y1, z1] := ⟨by show 3 ≤ 10; decide, fun n hn => by
      have up : ∀ {n : Int}, n.natAbs < 2 ^ 100 → n.natAbs < 2 ^ 240 := fun h => Nat.lt_of_lt_of_le h (Nat.pow_le_pow_right (by decide) (by decide))
      rcases List.mem_cons.mp hn with rfl | hn
      · exact up n1.x
      rcases List.mem_cons.mp hn with rfl | hn
      · exact up n1.y
      rcases List.mem_cons.mp hn with rfl | hn
      · exact up n1.w
      · cases hn⟩
    refine ite2 (fun _ => ?_) (fun _ => ⟨t, .ref p, .tuple ([x1, y1, z1].map .int), q, x2, y2, z2, w, du, b, th, rfl, D2, .tup ep (dd_ints [x1, y1, z1]), bn.sz.tuple.mono (by decide) (by decide), eq, c1, c2, c3⟩)
    exact ⟨_, rfl, _, rfl, d, l, .ref p, 1, rfl, D2, .inr ⟨rfl, p, [x1, y1, z1], rfl, ep, bn⟩, fun v' e' H' hv zv D' k' => ⟨t, v', e', q, x2, y2, z2, w, du, b, th, rfl, D', hv.mono fun b h => D2.off h, zv, tup_kp D2 k' eq, c1, c2, c3⟩⟩
  rintro σ2 H2 ⟨t, v, e, q, x2, y2, z2, w, du, b, th, rfl, D2, hv2, zv2, eq, c1, c2, c3⟩
  refine ⟨M3 a d l, ?_, ?_⟩
  · refine ⟨_, rfl, d, l, 4, rfl, by decide, by decide, D2, fun r H3 _ _ D3 k3 => ⟨rfl, _, rfl, ?_⟩⟩
    have eq := tup_kp D2 k3 eq
    have hv3 := hv2.keep (kp_keep D2 k3 fun b h => h)
    have bn : Bnd [x2, y2, z2] := ⟨by show 3 ≤ 10; decide, fun n hn => by
      have up : ∀ {n : Int}, n.natAbs < 2 ^ 102 → n.natAbs < 2 ^ 240 := fun h => Nat.lt_of_lt_of_le h (Nat.pow_le_pow_right (by decide) (by decide))
      rcases List.mem_cons.mp hn with rfl | hn
      · exact up c1
      rcases List.mem_cons.mp hn with rfl | hn
      · exact up c2
      rcases List.mem_cons.mp hn with rfl | hn
      · exact up c3
      · cases hn⟩
    refine ite2 (fun _ => ?_) (fun _ => ⟨t, v, .ref q, e, .tuple ([x2, y2, z2].map .int), w, du, b, th, rfl, D3, ⟨hv3, .tup eq (dd_ints [x2, y2, z2]), zv2, bn.sz.tuple.mono (by decide) (by decide)⟩⟩)
    refine ⟨_, rfl, _, rfl, _, rfl, d, l, .ref q, 1, rfl, D3, .inr ⟨rfl, q, [x2, y2, z2], rfl, eq, bn⟩, fun v' e' H4 hv' zv' D4 k4 => ?_⟩
    have eq4 := tup_kp D3 k4 eq
    have hv4 := hv3.keep (kp_keep D3 k4 fun b h => h)
    refine ⟨_, rfl, 2, rfl, q, _, rfl, SqT.of eq4, fun h => absurd h.2 (show ¬ HT.sIx 3 3 (some 2) = 3 by decide), fun _ p5 np5 => ?_⟩
    have x5 := Evl.Ex.new (o := .tup (cutV ([x2, y2, z2].map V.int) none (some 2))) np5
    have D5 := D4.new (o := .tup (cutV ([x2, y2, z2].map V.int) none (some 2))) np5
    have e5 : (upd H4 p5 (.tup (cutV ([x2, y2, z2].map V.int) none (some 2)))) p5 = some (.tup ([x2, y2].map V.int)) := upd_same
    generalize upd H4 p5 (.tup (cutV ([x2, y2, z2].map V.int) none (some 2))) = H5 at x5 D5 e5
    refine ⟨_, rfl, by show 4 ≤ sizeLine; decide, fun p6 np6 => ?_⟩
    have x6 := Evl.Ex.new (o := .lst [v', .non, .ref p5, v]) np6
    refine ⟨d, l, p6, _, rfl, D5.new np6, upd_same, (D5.off np6).1, (D5.off np6).2, by show 0 < 4; decide, by show 4 ≤ 1000; decide, pick_dd (c := 600) (m := 20) (F := off d l) (D5.new np6) (Kp.refl _) (fun b h => h) ?_ fun u f H7 hu zu D7 k7 => ?_⟩
    · refine all_cons ⟨e', (hv'.mono fun b h => D3.off h).keep (ex_keep (x5.trans x6)), zv'⟩ (all_cons ⟨_, .non, sz_none.mono (by decide) (by decide)⟩ (all_cons ⟨_, .tup (x6 _ _ e5) (dd_ints [x2, y2]), ?_⟩ (all_cons ⟨e, hv4.keep (ex_keep (x5.trans x6)), zv2⟩ all_nil)))
      have lt : ∀ {n : Int}, n.natAbs < 2 ^ 102 → n.natAbs < 2 ^ 250 := fun h => Nat.lt_of_lt_of_le h (Nat.pow_le_pow_right (by decide) (by decide))
      exact ((sza_cons (sz_int (lt c1)) (sza_cons (sz_int (lt c2)) sza_nil)).tuple).mono (by decide) (by decide)
    · have kk := kp_keep (F := off d l) (D5.new (o := .lst [v', .non, .ref p5, v]) np6) k7 fun b h => h
      exact ⟨t, v, u, e, f, w, du, b, th, rfl, D7, ⟨(hv4.keep (ex_keep (x5.trans x6))).keep kk, hu, zv2, zu⟩⟩
  rintro σ3 H3 ⟨t, v, u, e, f, w, du, b, th, rfl, D3, t3⟩
  refine ⟨M4 a d l, ?_, ?_⟩
  · refine ⟨_, rfl, _, rfl, by show 2 ≤ sizeLine; decide, fun pt npt => ?_⟩
    have xA := Evl.Ex.new (o := .tup [v, u]) npt
    have eA : (upd H3 pt (.tup [v, u])) pt = some (.tup [v, u]) := upd_same
    have DA := D3.new (o := .tup [v, u]) npt
    generalize upd H3 pt (.tup [v, u]) = HA at xA eA DA
    have tA := t3.keep (ex_keep xA)
    refine ⟨pt, rfl, ⟨_, SqT.of eA⟩, fun p np => lc_tup (xs := [v, u]) (fun i H' => Evl.Ex HA H' ∧ H' p = some (.lst ((if 0 < i ∧ isLine e = false then [v] else []) ++ (if 1 < i ∧ isLine f = false then [u] else [])))) ⟨Evl.Ex.new np, upd_same⟩ (fun i H' _ h => SqT.of (h.1 _ _ eA)) (fun i x H' hx h => ?_) (fun H' h => ?_)⟩
    · obtain ⟨x1, ep⟩ := h
      have hi : (i = 0 ∧ x = v) ∨ (i = 1 ∧ x = u) := by
        match i, hx with
        | 0, hx => exact .inl ⟨rfl, (Option.some.inj hx).symm⟩
        | 1, hx => exact .inr ⟨rfl, (Option.some.inj hx).symm⟩
      have tB := tA.keep (ex_keep x1)
      rcases hi with ⟨rfl, rfl⟩ | ⟨rfl, rfl⟩
      · refine ⟨rfl, _, rfl, x, off d l, e, _, _, rfl, tB.x, tB.sx, by decide, fun H2 x2 => ⟨_, rfl, ite2 (fun h => ?_) (fun h => ?_)⟩⟩
        · have h : isLine e = false := by simpa using h
          have ep2 := x2 _ _ ep
          refine ⟨_, rfl, _, ep2, by rw [if_neg (by simp), if_neg (by simp)]; decide, (x1.trans x2).mut np, ?_⟩
          rw [upd_same, if_neg (by simp), if_neg (by simp), if_pos ⟨by decide, h⟩, if_neg (by simp)]
          rfl
        · have h : isLine e = true := by simpa using h
          refine ⟨x1.trans x2, ?_⟩
          rw [x2 _ _ ep, h]
          simp
      · refine ⟨rfl, _, rfl, x, off d l, f, _, _, rfl, tB.y, tB.sy, by decide, fun H2 x2 => ⟨_, rfl, ite2 (fun h => ?_) (fun h => ?_)⟩⟩
        · have h : isLine f = false := by simpa using h
          have ep2 := x2 _ _ ep
          refine ⟨_, rfl, _, ep2, ?_, (x1.trans x2).mut np, ?_⟩
          · rw [if_neg (show ¬ (1 < 1 ∧ isLine f = false) by simp), List.append_nil]
            split
            · exact small1000 (show 1 ≤ 1000 by decide)
            · exact small1000 (show 0 ≤ 1000 by decide)
          · rw [upd_same, if_neg (show ¬ (1 < 1 ∧ isLine f = false) by simp), if_pos (show 1 < 1 + 1 ∧ isLine f = false from ⟨by decide, h⟩), List.append_nil]
            simp
        · have h : isLine f = true := by simpa using h
          refine ⟨x1.trans x2, ?_⟩
          rw [x2 _ _ ep, h]
          simp
    · obtain ⟨x1, ep⟩ := h
      have o := DA.off np
      refine ⟨t, v, u, e, f, p, du, b, th, rfl, DA.ex' x1, tA.keep (ex_keep x1), ?_, o.1, o.2⟩
      rw [ep]
      unfold wrongs
      cases isLine e <;> cases isLine f <;> simp
  rintro σ4 H4 ⟨t, v, u, e, f, p, du, b, th, rfl, D4, t4, ep, po⟩
  refine ⟨M5 a d l, ?_, ?_⟩
  · refine ⟨_, rfl, Nat.zero_le _, fun p2 np2 => ⟨p, p2, wrongs v u e f, rfl, rfl, SqL.of (by rw [upd_ne (ne_of_none ep np2)]; exact ep), SqL.of upd_same, _, rfl, ?_⟩⟩
    have D5 := D4.new (o := .lst []) np2
    have t5 := t4.keep (ex_keep (Evl.Ex.new (o := .lst []) np2))
    have ep5 := Evl.Ex.new (o := .lst []) np2 _ _ ep
    generalize upd H4 p2 (.lst []) = H5 at D5 t5 ep5
    refine ite2 (fun h => ?_) (fun h => ?_)
    · obtain ⟨l1, l2⟩ := wrongs_nil h
      obtain ⟨p1, a1, b1, c1, rfl, rfl, e1⟩ := dd_three_ints t5.x (isLine_ints l1)
      obtain ⟨q1, a2, b2, c2, rfl, rfl, e2⟩ := dd_three_ints t5.y (isLine_ints l2)
      have i1 := ib3 t5.sx.ib
      have i2 := ib3 t5.sy.ib
      refine ⟨_, rfl, _, rfl, p1, q1, a1, b1, c1, a2, b2, c2, rfl, e1, e2, ib_lt i1, ib_lt i2, fun vm H6 x6 hm => ⟨by show 2 ≤ sizeLine; decide, fun pd npd => ?_⟩⟩
      have xd := Evl.Ex.new (o := .tup [.str "told", vm]) npd
      refine ⟨t, _, _, _, _, p, .ref pd, .tuple [.str "told", meetD a1 b1 c1 a2 b2 c2], b, th, rfl, (D5.ex' x6).new npd, t5.keep (ex_keep (x6.trans xd)), (x6.trans xd) _ _ ep5, .inl ⟨_, _, _, _, _, _, rfl, rfl, l1, l2, ib_lt i1, ib_lt i2, rfl⟩,
        .tup upd_same (.cons (.str _) (.cons ((hm (off d l)).keep (ex_keep xd)) .nil)), ?_⟩
      exact ((rza_cons ((sz_str (x := "told") (n := 4) (by decide) (by decide)).toRz.mono (Nat.le_refl _) (by decide : 0 ≤ 1)) (rza_cons (rz_meetD i1 i2) rza_nil)).tuple).mono (by decide) (by decide)
    · have hw : ∃ w0 x0, Dd (off d l) H5 w0 x0 ∧ Sz 600 20 x0 ∧ atI (wrongs v u e f) 0 = some w0 ∧ DueM e f (.tuple [.str "line", x0, .bool true]) := by
        cases h1 : isLine e with
        | false =>
          refine ⟨v, e, t5.x, t5.sx, ?_, .inr (.inl ⟨h1, rfl⟩)⟩
          unfold wrongs
          rw [h1]
          exact atI_nat (j := 0) rfl
        | true =>
          cases h2 : isLine f with
          | false =>
            refine ⟨u, f, t5.y, t5.sy, ?_, .inr (.inr ⟨h1, h2, rfl⟩)⟩
            unfold wrongs
            rw [h1, h2]
            exact atI_nat (j := 0) rfl
          | true =>
            refine absurd ?_ h
            unfold wrongs
            rw [h1, h2]
            rfl
      obtain ⟨w0, x0, hw, zw, hat, hd⟩ := hw
      refine ⟨_, rfl, p, _, 0, w0, rfl, rfl, SqL.of ep5, hat, by show 3 ≤ sizeLine; decide, fun pd npd => ?_⟩
      have xd := Evl.Ex.new (o := .tup [.str "line", w0, .bl true]) npd
      refine ⟨t, v, u, e, f, p, .ref pd, _, b, th, rfl, D5.new npd, t5.keep (ex_keep xd), xd _ _ ep5, hd, .tup upd_same (.cons (.str _) (.cons (hw.keep (ex_keep xd)) (.cons (.bl _) .nil))), ?_⟩
      exact ((rza_cons ((sz_str (x := "line") (n := 4) (by decide) (by decide)).toRz.mono (Nat.le_refl _) (by decide : 0 ≤ 20)) (rza_cons zw.toRz (rza_cons ((sz_bool true).toRz.mono (Nat.le_refl _) (by decide : 0 ≤ 20)) rza_nil))).tuple).mono (by decide) (by decide)
  rintro σ5 H5 ⟨t, v, u, e, f, p, dv, D', b, th, rfl, D5, t5, ep, hD, hdv, zD⟩
  have told : ∀ {H : Hp} {Q : VK} {way : Int}, Two d l H v u e f → (∀ v H', Evl.Ex H H' → Dd (off d l) H' v D' → Q v H') → spTold [v, u, .int way] H Q E0 := fun {H Q way} t q =>
    ⟨v, u, way, off d l, e, f, D', rfl, t.x, t.y, Nat.le_trans t.sx.bk (by decide), Nat.le_trans t.sy.bk (by decide), hD, q⟩
  have szP : Rz 7000 50 (.tuple [D', D']) := ((rza_cons zD (rza_cons zD rza_nil)).tuple).mono (by decide) (by decide)
  refine ⟨_, rfl, _, rfl, told t5 fun v1 H7 x7 hv1 => ⟨_, rfl, _, rfl, told (t5.keep (ex_keep x7)) fun v2 H8 x8 hv2 => ?_⟩⟩
  refine ⟨by show 2 ≤ sizeLine; decide, fun pp np => ?_⟩
  have xp := Evl.Ex.new (o := .tup [v1, v2]) np
  have x9 := (x7.trans x8).trans xp
  refine ⟨_, off d l, .tuple [D', D'], rfl, .tup upd_same (.cons (hv1.keep (ex_keep (x8.trans xp))) (.cons (hv2.keep (ex_keep xp)) .nil)), szP, ?_⟩
  have D9 := D5.ex' x9
  have t9 := t5.keep (ex_keep x9)
  have d9 := hdv.keep (ex_keep x9)
  have ep9 := x9 _ _ ep
  generalize upd H8 pp (.tup [v1, v2]) = H9 at x9 D9 t9 d9 ep9
  refine ⟨_, rfl, _, rfl, by show 2 ≤ sizeLine; decide, fun q nq => ?_⟩
  have xA := Evl.Ex.new (o := .tup [dv, dv]) nq
  refine ⟨_, off d l, .tuple [D', D'], rfl, .tup upd_same (.cons (d9.keep (ex_keep xA)) (.cons (d9.keep (ex_keep xA)) .nil)), szP, ?_⟩
  have DA := D9.ex' xA
  have tA := t9.keep (ex_keep xA)
  have dA := d9.keep (ex_keep xA)
  have epA := xA _ _ ep9
  generalize upd H9 q (.tup [dv, dv]) = HA at DA tA dA epA
  refine ⟨rfl, _, rfl, ?_⟩
  rw [str_same]
  refine iteF ?_
  -- if wrong == []
  refine ⟨_, rfl, Nat.zero_le _, fun p2 np2 => ⟨p, p2, wrongs v u e f, rfl, rfl, SqL.of (by rw [upd_ne (ne_of_none epA np2)]; exact epA), SqL.of upd_same, _, rfl, ?_⟩⟩
  have DB := DA.new (o := .lst []) np2
  have tB := tA.keep (ex_keep (Evl.Ex.new (o := .lst []) np2))
  have dB := dA.keep (ex_keep (Evl.Ex.new (o := .lst []) np2))
  generalize upd HA p2 (.lst []) = HB at DB tB dB
  refine ite2 (fun h => ?_) (fun _ => ⟨_, _, _, _, _, _, _, rfl, DB⟩)
  obtain ⟨l1, l2⟩ := wrongs_nil h
  obtain ⟨p1, a1, b1, c1, rfl, rfl, e1⟩ := dd_three_ints tB.x (isLine_ints l1)
  obtain ⟨q1, a2, b2, c2, rfl, rfl, e2⟩ := dd_three_ints tB.y (isLine_ints l2)
  have i1 := ib3 tB.sx.ib
  have i2 := ib3 tB.sy.ib
  have eD : D' = .tuple [.str "told", meetD a1 b1 c1 a2 b2 c2] := by
    rcases hD with ⟨a', b', c', d', e', f', f1, f2, _, _, _, _, rfl⟩ | ⟨n, _⟩ | ⟨_, n, _⟩
    · cases f1
      cases f2
      rfl
    · rw [l1] at n
      cases n
    · rw [l2] at n
      cases n
  subst eD
  obtain ⟨pd, vm, rfl, epd, hvm⟩ := dd_pair dB
  have sp := SqT.of (K := K) e1
  refine ⟨_, rfl, p1, _, 0, _, rfl, rfl, sp, at30, a1, rfl, _, rfl, p1, _, 1, _, rfl, rfl, sp, at31, b1, rfl, _, rfl, p1, _, 2, _, rfl, rfl, sp, at32, c1, rfl, by show 3 ≤ sizeLine; decide, fun pb npb => ?_⟩
  have xC := Evl.Ex.new (o := .tup [.int (-a1), .int (-b1), .int (-c1)]) npb
  have epb : (upd HB pb (.tup [.int (-a1), .int (-b1), .int (-c1)])) pb = some (.tup ([-a1, -b1, -c1].map V.int)) := upd_same
  have DC := DB.ex' xC
  have tC := tB.keep (ex_keep xC)
  have hvm := hvm.keep (ex_keep xC)
  have epd := xC _ _ epd
  generalize upd HB pb (.tup [.int (-a1), .int (-b1), .int (-c1)]) = HC at xC epb DC tC hvm epd
  have lb := isLine_neg l1
  have ltb : Lt63 (-a1) (-b1) (-c1) := ⟨lt6_neg (ib_lt i1).a, lt6_neg (ib_lt i1).b, lt6_neg (ib_lt i1).c⟩
  have dback : ∀ {H : Hp}, Evl.Ex HC H → Dd (off d l) H (.ref pb) (.tuple [.int (-a1), .int (-b1), .int (-c1)]) := fun x => .tup (x _ _ epb) (dd_ints [-a1, -b1, -c1])
  have rM := rz_meetD i1 i2
  have rP : Rz 7000 50 (.tuple [meetD a1 b1 c1 a2 b2 c2, meetD a1 b1 c1 a2 b2 c2]) := ((rza_cons rM (rza_cons rM rza_nil)).tuple).mono (by decide) (by decide)
  refine ⟨_, rfl, _, rfl, meet_go (C := CL) (E := fun _ _ _ => False) tC.y tC.x l2 l1 (ib_lt i2) (ib_lt i1) fun m1 H7 x7 hm1 => ⟨_, rfl, _, rfl, meet_go (C := CL) (E := fun _ _ _ => False) (dback x7) (tC.y.keep (ex_keep x7)) lb l2 ltb (ib_lt i2) fun m2 H8 x8 hm2 => ?_⟩⟩
  rw [meet_swap] at hm1
  rw [meet_back] at hm2
  refine ⟨by show 2 ≤ sizeLine; decide, fun pq npq => ?_⟩
  have xq := Evl.Ex.new (o := .tup [m1, m2]) npq
  have x9 := (x7.trans x8).trans xq
  refine ⟨_, off d l, .tuple [meetD a1 b1 c1 a2 b2 c2, meetD a1 b1 c1 a2 b2 c2], rfl, .tup upd_same (.cons (hm1.keep (ex_keep (x8.trans xq))) (.cons (hm2.keep (ex_keep xq)) .nil)), rP, ?_⟩
  have DD := DC.ex' x9
  have tD := tC.keep (ex_keep x9)
  have hvm := hvm.keep (ex_keep x9)
  have epd := x9 _ _ epd
  generalize upd H8 pq (.tup [m1, m2]) = HD at DD tD hvm epd
  have at1 : atI [V.str "told", vm] 1 = some vm := atI_nat (j := 1) rfl
  refine ⟨_, rfl, pd, _, 1, _, rfl, rfl, SqT.of epd, at1, _, rfl, pd, _, 1, _, rfl, rfl, SqT.of epd, at1, by show 2 ≤ sizeLine; decide, fun pr npr => ?_⟩
  have xr := Evl.Ex.new (o := .tup [vm, vm]) npr
  refine ⟨_, off d l, .tuple [meetD a1 b1 c1 a2 b2 c2, meetD a1 b1 c1 a2 b2 c2], rfl, .tup upd_same (.cons (hvm.keep (ex_keep xr)) (.cons (hvm.keep (ex_keep xr)) .nil)), rP, ?_⟩
  have DE := DD.ex' xr
  have tE := tD.keep (ex_keep xr)
  have hvm := hvm.keep (ex_keep xr)
  have epd := xr _ _ epd
  generalize upd HD pr (.tup [vm, vm]) = HE at DE tE hvm epd
  refine ⟨rfl, _, rfl, ?_⟩
  rw [str_same]
  refine iteF ?_
  -- the meeting is on both
  refine ⟨_, rfl, pd, _, 1, _, rfl, rfl, SqT.of epd, at1, rfl, _, rfl, ite2 (fun hn => ?_) (fun _ => ⟨_, _, _, _, _, _, _, rfl, DE⟩)⟩
  have hw : a1 * b2 - b1 * a2 ≠ 0 := fun z => by
    unfold meetD meetOf at hvm
    rw [if_pos z] at hvm
    cases hvm
    rw [decide_eq_true rfl] at hn
    cases hn
  obtain ⟨X, Y, W, eP, g1, g2, g3⟩ := placeOf_is (b1 * c2 - c1 * b2) (c1 * a2 - a1 * c2) (a1 * b2 - b1 * a2)
  have hvm : Dd (off d l) HE vm (.tuple [.int X, .int Y, .int W]) := by
    have e0 : meetD a1 b1 c1 a2 b2 c2 = .tuple [.int X, .int Y, .int W] := by
      unfold meetD meetOf
      rw [if_neg hw, eP] <;> rfl
    rw [e0] at hvm
    exact hvm
  have isP : isPlace (.tuple [.int X, .int Y, .int W]) = true := by
    have := isPlace_placeOf (x := b1 * c2 - c1 * b2) (y := c1 * a2 - a1 * c2) (w := a1 * b2 - b1 * a2) hw
    rw [eP] at this
    exact this
  have ltP : Lt63 X Y W := ⟨lt6_of (n := 501) (Nat.lt_of_le_of_lt g1 (cross_lt i1.2.1 i2.2.2 i1.2.2 i2.2.1)) (by decide), lt6_of (n := 501) (Nat.lt_of_le_of_lt g2 (cross_lt i1.2.2 i2.1 i1.1 i2.2.2)) (by decide), lt6_of (n := 501) (Nat.lt_of_le_of_lt g3 (cross_lt i1.1 i2.2.1 i1.2.1 i2.1)) (by decide)⟩
  have o1 := dot_placeOf hw (dot_one a1 b1 c1 a2 b2 c2) eP
  have o2 := dot_placeOf hw (dot_two a1 b1 c1 a2 b2 c2) eP
  refine ⟨_, rfl, pd, _, 1, _, rfl, rfl, SqT.of epd, at1, vm, off d l, _, rfl, hvm, by simp [PyData.bulk, PyData.bulkAll], fun HF xF => ?_⟩
  refine ⟨_, rfl, _, rfl, pd, _, 1, _, rfl, rfl, SqT.of (xF _ _ epd), at1, ?_⟩
  dsimp only [tNil, List.cons_append, List.nil_append]
  show spSide CL CP [.ref p1, vm] HF _ _
  refine side_go (tE.x.keep (ex_keep xF)) (hvm.keep (ex_keep xF)) l1 isP (ib_lt i1) ltP fun HG xG => ?_
  have xG := xF.trans xG
  refine ⟨_, rfl, _, rfl, pd, _, 1, _, rfl, rfl, SqT.of (xG _ _ epd), at1, ?_⟩
  dsimp only [tNil, List.cons_append, List.nil_append]
  show spSide CL CP [.ref q1, vm] HG _ _
  refine side_go (tE.y.keep (ex_keep xG)) (hvm.keep (ex_keep xG)) l2 isP (ib_lt i2) ltP fun HI xI => ?_
  have xI := xG.trans xI
  rw [isP, o1, o2]
  have sg : sgn 0 = 0 := by decide
  rw [sg]
  refine ⟨by show 3 ≤ sizeLine; decide, fun pt npt => ⟨by show 3 ≤ sizeLine; decide, fun pu npu => ?_⟩⟩
  have xt := Evl.Ex.new (o := .tup [.bl true, .int 0, .int 0]) npt
  have xu := Evl.Ex.new (o := .tup [.bl true, .int 0, .int 0]) npu
  refine ⟨.tuple [.bool true, .int 0, .int 0], .tuple [.bool true, .int 0, .int 0], .tup (SqT.of (xu _ _ upd_same)) (.cons (.bl true) (.cons (.int 0) (.cons (.int 0) .nil))), .tup (SqT.of upd_same) (.cons (.bl true) (.cons (.int 0) (.cons (.int 0) .nil))), by decide +kernel, by decide +kernel, _, rfl, ?_⟩
  rw [show PyData.eqv (.tuple [.bool true, .int 0, .int 0]) (.tuple [.bool true, .int 0, .int 0]) = true by decide +kernel]
  exact iteF ⟨_, _, _, _, _, _, _, rfl, DE.ex' ((xI.trans xt).trans xu)⟩
end
end Ey
namespace Ey
open PySem PySem.Spec PyProof.Rows L2
/-! ### what the top has written; the end -/
theorem at_mk {K : PySem.W.Frag} {h : Heap} {mg : Str → Option Value} {x : Str} {st : Stmt} {f : Addr} {oc : Value} {od an : Option Addr} {sl : Array (Option Value)} {kV dc pm cd ct : Value} (X : K.In h) (G : h.Ns mainGlobals mg)
    (a : PySem.W.nsIn K mainGlobals x = some (some (.ref f))) (l : K.lookup f = some ⟨oc, od, .func (PySem.W.fnOf x x (defArgs st) (defBody st) (defScope st) .none kV dc pm an cd ct), sl⟩) (c : PySem.W.codeIn K cd x = true) (k : PySem.W.keepIn K (.ref f) = true) : At K mg x st :=
  ⟨f, _, fun_mk l c k, PySem.W.mg_of X G a⟩
/-- the first def of a class -/
def clsIni : Stmt → Stmt
  | .ClassDef (body := b) .. => b.getD 0 (.Pass ⟨0, 0, 0, 0⟩)
  | s => s
theorem all_mk {P : Program} {w : World} {K : PySem.W.Frag} {h : Heap} {mg : Str → Option Value} {fa : Addr} (X : K.In h) (G : h.Ns mainGlobals mg) (hfa : mg "law" = some (.ref fa))
    {f0 : Addr} {oc0 : Value} {od0 an0 : Option Addr} {sl0 : Array (Option Value)} {kV0 dc0 pm0 cd0 ct0 : Value}
    {f1 : Addr} {oc1 : Value} {od1 an1 : Option Addr} {sl1 : Array (Option Value)} {kV1 dc1 pm1 cd1 ct1 : Value}
    {f2 : Addr} {oc2 : Value} {od2 an2 : Option Addr} {sl2 : Array (Option Value)} {kV2 dc2 pm2 cd2 ct2 : Value}
    {f3 : Addr} {oc3 : Value} {od3 an3 : Option Addr} {sl3 : Array (Option Value)} {kV3 dc3 pm3 cd3 ct3 : Value}
    {f4 : Addr} {oc4 : Value} {od4 an4 : Option Addr} {sl4 : Array (Option Value)} {kV4 dc4 pm4 cd4 ct4 : Value}
    {f5 : Addr} {oc5 : Value} {od5 an5 : Option Addr} {sl5 : Array (Option Value)} {kV5 dc5 pm5 cd5 ct5 : Value}
    {f6 : Addr} {oc6 : Value} {od6 an6 : Option Addr} {sl6 : Array (Option Value)} {kV6 dc6 pm6 cd6 ct6 : Value}
    {f7 : Addr} {oc7 : Value} {od7 an7 : Option Addr} {sl7 : Array (Option Value)} {kV7 dc7 pm7 cd7 ct7 : Value}
    {f8 : Addr} {oc8 : Value} {od8 an8 : Option Addr} {sl8 : Array (Option Value)} {kV8 dc8 pm8 cd8 ct8 : Value}
    {f9 : Addr} {oc9 : Value} {od9 an9 : Option Addr} {sl9 : Array (Option Value)} {kV9 dc9 pm9 cd9 ct9 : Value}
    {f10 : Addr} {oc10 : Value} {od10 an10 : Option Addr} {sl10 : Array (Option Value)} {kV10 dc10 pm10 cd10 ct10 : Value}
    {f11 : Addr} {oc11 : Value} {od11 an11 : Option Addr} {sl11 : Array (Option Value)} {kV11 dc11 pm11 cd11 ct11 : Value}
    {f12 : Addr} {oc12 : Value} {od12 an12 : Option Addr} {sl12 : Array (Option Value)} {kV12 dc12 pm12 cd12 ct12 : Value}
    {f13 : Addr} {oc13 : Value} {od13 an13 : Option Addr} {sl13 : Array (Option Value)} {kV13 dc13 pm13 cd13 ct13 : Value}
    {f14 : Addr} {oc14 : Value} {od14 an14 : Option Addr} {sl14 : Array (Option Value)} {kV14 dc14 pm14 cd14 ct14 : Value}
    {f15 : Addr} {oc15 : Value} {od15 an15 : Option Addr} {sl15 : Array (Option Value)} {kV15 dc15 pm15 cd15 ct15 : Value}
    {f16 : Addr} {oc16 : Value} {od16 an16 : Option Addr} {sl16 : Array (Option Value)} {kV16 dc16 pm16 cd16 ct16 : Value}
    {f17 : Addr} {oc17 : Value} {od17 an17 : Option Addr} {sl17 : Array (Option Value)} {kV17 dc17 pm17 cd17 ct17 : Value}
    {f18 : Addr} {oc18 : Value} {od18 an18 : Option Addr} {sl18 : Array (Option Value)} {kV18 dc18 pm18 cd18 ct18 : Value}
    {f19 : Addr} {oc19 : Value} {od19 an19 : Option Addr} {sl19 : Array (Option Value)} {kV19 dc19 pm19 cd19 ct19 : Value}
    {f20 : Addr} {oc20 : Value} {od20 an20 : Option Addr} {sl20 : Array (Option Value)} {kV20 dc20 pm20 cd20 ct20 : Value}
    {f21 : Addr} {oc21 : Value} {od21 an21 : Option Addr} {sl21 : Array (Option Value)} {kV21 dc21 pm21 cd21 ct21 : Value}
    {f22 : Addr} {oc22 : Value} {od22 an22 : Option Addr} {sl22 : Array (Option Value)} {kV22 dc22 pm22 cd22 ct22 : Value}
    {f23 : Addr} {oc23 : Value} {od23 an23 : Option Addr} {sl23 : Array (Option Value)} {kV23 dc23 pm23 cd23 ct23 : Value}
    {f24 : Addr} {oc24 : Value} {od24 an24 : Option Addr} {sl24 : Array (Option Value)} {kV24 dc24 pm24 cd24 ct24 : Value}
    {f25 : Addr} {oc25 : Value} {od25 an25 : Option Addr} {sl25 : Array (Option Value)} {kV25 dc25 pm25 cd25 ct25 : Value}
    {f26 : Addr} {oc26 : Value} {od26 an26 : Option Addr} {sl26 : Array (Option Value)} {kV26 dc26 pm26 cd26 ct26 : Value}
    {f27 : Addr} {oc27 : Value} {od27 an27 : Option Addr} {sl27 : Array (Option Value)} {kV27 dc27 pm27 cd27 ct27 : Value}
    {f28 : Addr} {oc28 : Value} {od28 an28 : Option Addr} {sl28 : Array (Option Value)} {kV28 dc28 pm28 cd28 ct28 : Value}
    {f29 : Addr} {oc29 : Value} {od29 an29 : Option Addr} {sl29 : Array (Option Value)} {kV29 dc29 pm29 cd29 ct29 : Value}
    {f30 : Addr} {oc30 : Value} {od30 an30 : Option Addr} {sl30 : Array (Option Value)} {kV30 dc30 pm30 cd30 ct30 : Value}
    (a0 : PySem.W.nsIn K mainGlobals "is_integer" = some (some (.ref f0))) (l0 : K.lookup f0 = some ⟨oc0, od0, .func (PySem.W.fnOf "is_integer" "is_integer" (defArgs sIsInt) (defBody sIsInt) (defScope sIsInt) .none kV0 dc0 pm0 an0 cd0 ct0), sl0⟩) (c0 : PySem.W.codeIn K cd0 "is_integer" = true) (k0 : PySem.W.keepIn K (.ref f0) = true)
    (a1 : PySem.W.nsIn K mainGlobals "is_tuple_of_integers" = some (some (.ref f1))) (l1 : K.lookup f1 = some ⟨oc1, od1, .func (PySem.W.fnOf "is_tuple_of_integers" "is_tuple_of_integers" (defArgs sIsTup) (defBody sIsTup) (defScope sIsTup) .none kV1 dc1 pm1 an1 cd1 ct1), sl1⟩) (c1 : PySem.W.codeIn K cd1 "is_tuple_of_integers" = true) (k1 : PySem.W.keepIn K (.ref f1) = true)
    (a2 : PySem.W.nsIn K mainGlobals "is_place" = some (some (.ref f2))) (l2 : K.lookup f2 = some ⟨oc2, od2, .func (PySem.W.fnOf "is_place" "is_place" (defArgs sIsPlace) (defBody sIsPlace) (defScope sIsPlace) .none kV2 dc2 pm2 an2 cd2 ct2), sl2⟩) (c2 : PySem.W.codeIn K cd2 "is_place" = true) (k2 : PySem.W.keepIn K (.ref f2) = true)
    (a3 : PySem.W.nsIn K mainGlobals "is_line" = some (some (.ref f3))) (l3 : K.lookup f3 = some ⟨oc3, od3, .func (PySem.W.fnOf "is_line" "is_line" (defArgs sIsLine) (defBody sIsLine) (defScope sIsLine) .none kV3 dc3 pm3 an3 cd3 ct3), sl3⟩) (c3 : PySem.W.codeIn K cd3 "is_line" = true) (k3 : PySem.W.keepIn K (.ref f3) = true)
    (a4 : PySem.W.nsIn K mainGlobals "place" = some (some (.ref f4))) (l4 : K.lookup f4 = some ⟨oc4, od4, .func (PySem.W.fnOf "place" "place" (defArgs sPlace) (defBody sPlace) (defScope sPlace) .none kV4 dc4 pm4 an4 cd4 ct4), sl4⟩) (c4 : PySem.W.codeIn K cd4 "place" = true) (k4 : PySem.W.keepIn K (.ref f4) = true)
    (a5 : PySem.W.nsIn K mainGlobals "side" = some (some (.ref f5))) (l5 : K.lookup f5 = some ⟨oc5, od5, .func (PySem.W.fnOf "side" "side" (defArgs sSide) (defBody sSide) (defScope sSide) .none kV5 dc5 pm5 an5 cd5 ct5), sl5⟩) (c5 : PySem.W.codeIn K cd5 "side" = true) (k5 : PySem.W.keepIn K (.ref f5) = true)
    (a6 : PySem.W.nsIn K mainGlobals "worth" = some (some (.ref f6))) (l6 : K.lookup f6 = some ⟨oc6, od6, .func (PySem.W.fnOf "worth" "worth" (defArgs sWorthP) (defBody sWorthP) (defScope sWorthP) .none kV6 dc6 pm6 an6 cd6 ct6), sl6⟩) (c6 : PySem.W.codeIn K cd6 "worth" = true) (k6 : PySem.W.keepIn K (.ref f6) = true)
    (a7 : PySem.W.nsIn K mainGlobals "meeting" = some (some (.ref f7))) (l7 : K.lookup f7 = some ⟨oc7, od7, .func (PySem.W.fnOf "meeting" "meeting" (defArgs sMeet) (defBody sMeet) (defScope sMeet) .none kV7 dc7 pm7 an7 cd7 ct7), sl7⟩) (c7 : PySem.W.codeIn K cd7 "meeting" = true) (k7 : PySem.W.keepIn K (.ref f7) = true)
    (a8 : PySem.W.nsIn K mainGlobals "check_place" = some (some (.ref f8))) (l8 : K.lookup f8 = some ⟨oc8, od8, .func (PySem.W.fnOf "check_place" "check_place" (defArgs sChkP) (defBody sChkP) (defScope sChkP) .none kV8 dc8 pm8 an8 cd8 ct8), sl8⟩) (c8 : PySem.W.codeIn K cd8 "check_place" = true) (k8 : PySem.W.keepIn K (.ref f8) = true)
    (a9 : PySem.W.nsIn K mainGlobals "check_line" = some (some (.ref f9))) (l9 : K.lookup f9 = some ⟨oc9, od9, .func (PySem.W.fnOf "check_line" "check_line" (defArgs sChkL) (defBody sChkL) (defScope sChkL) .none kV9 dc9 pm9 an9 cd9 ct9), sl9⟩) (c9 : PySem.W.codeIn K cd9 "check_line" = true) (k9 : PySem.W.keepIn K (.ref f9) = true)
    (a10 : PySem.W.nsIn K mainGlobals "reduced" = some (some (.ref f10))) (l10 : K.lookup f10 = some ⟨oc10, od10, .func (PySem.W.fnOf "reduced" "reduced" (defArgs sRed) (defBody sRed) (defScope sRed) .none kV10 dc10 pm10 an10 cd10 ct10), sl10⟩) (c10 : PySem.W.codeIn K cd10 "reduced" = true) (k10 : PySem.W.keepIn K (.ref f10) = true)
    (a11 : PySem.W.nsIn K mainGlobals "crossed" = some (some (.ref f11))) (l11 : K.lookup f11 = some ⟨oc11, od11, .func (PySem.W.fnOf "crossed" "crossed" (defArgs sCrossed) (defBody sCrossed) (defScope sCrossed) .none kV11 dc11 pm11 an11 cd11 ct11), sl11⟩) (c11 : PySem.W.codeIn K cd11 "crossed" = true) (k11 : PySem.W.keepIn K (.ref f11) = true)
    (a12 : PySem.W.nsIn K mainGlobals "_law_deck" = some (some (.ref f12))) (l12 : K.lookup f12 = some ⟨oc12, od12, .func (PySem.W.fnOf "_law_deck" "_law_deck" (defArgs sDeck) (defBody sDeck) (defScope sDeck) .none kV12 dc12 pm12 an12 cd12 ct12), sl12⟩) (c12 : PySem.W.codeIn K cd12 "_law_deck" = true) (k12 : PySem.W.keepIn K (.ref f12) = true)
    (a13 : PySem.W.nsIn K mainGlobals "_law_draw" = some (some (.ref f13))) (l13 : K.lookup f13 = some ⟨oc13, od13, .func (PySem.W.fnOf "_law_draw" "_law_draw" (defArgs sDraw) (defBody sDraw) (defScope sDraw) .none kV13 dc13 pm13 an13 cd13 ct13), sl13⟩) (c13 : PySem.W.codeIn K cd13 "_law_draw" = true) (k13 : PySem.W.keepIn K (.ref f13) = true)
    (a14 : PySem.W.nsIn K mainGlobals "_law_pick" = some (some (.ref f14))) (l14 : K.lookup f14 = some ⟨oc14, od14, .func (PySem.W.fnOf "_law_pick" "_law_pick" (defArgs sPick) (defBody sPick) (defScope sPick) .none kV14 dc14 pm14 an14 cd14 ct14), sl14⟩) (c14 : PySem.W.codeIn K cd14 "_law_pick" = true) (k14 : PySem.W.keepIn K (.ref f14) = true)
    (a15 : PySem.W.nsIn K mainGlobals "_law_is_integer" = some (some (.ref f15))) (l15 : K.lookup f15 = some ⟨oc15, od15, .func (PySem.W.fnOf "_law_is_integer" "_law_is_integer" (defArgs sLIsInt) (defBody sLIsInt) (defScope sLIsInt) .none kV15 dc15 pm15 an15 cd15 ct15), sl15⟩) (c15 : PySem.W.codeIn K cd15 "_law_is_integer" = true) (k15 : PySem.W.keepIn K (.ref f15) = true)
    (a16 : PySem.W.nsIn K mainGlobals "_law_any" = some (some (.ref f16))) (l16 : K.lookup f16 = some ⟨oc16, od16, .func (PySem.W.fnOf "_law_any" "_law_any" (defArgs sAny) (defBody sAny) (defScope sAny) .none kV16 dc16 pm16 an16 cd16 ct16), sl16⟩) (c16 : PySem.W.codeIn K cd16 "_law_any" = true) (k16 : PySem.W.keepIn K (.ref f16) = true)
    (a17 : PySem.W.nsIn K mainGlobals "_law_instead" = some (some (.ref f17))) (l17 : K.lookup f17 = some ⟨oc17, od17, .func (PySem.W.fnOf "_law_instead" "_law_instead" (defArgs sInstead) (defBody sInstead) (defScope sInstead) .none kV17 dc17 pm17 an17 cd17 ct17), sl17⟩) (c17 : PySem.W.codeIn K cd17 "_law_instead" = true) (k17 : PySem.W.keepIn K (.ref f17) = true)
    (a18 : PySem.W.nsIn K mainGlobals "_law_bent" = some (some (.ref f18))) (l18 : K.lookup f18 = some ⟨oc18, od18, .func (PySem.W.fnOf "_law_bent" "_law_bent" (defArgs sBent) (defBody sBent) (defScope sBent) .none kV18 dc18 pm18 an18 cd18 ct18), sl18⟩) (c18 : PySem.W.codeIn K cd18 "_law_bent" = true) (k18 : PySem.W.keepIn K (.ref f18) = true)
    (a19 : PySem.W.nsIn K mainGlobals "_law_are_integers" = some (some (.ref f19))) (l19 : K.lookup f19 = some ⟨oc19, od19, .func (PySem.W.fnOf "_law_are_integers" "_law_are_integers" (defArgs sLAre) (defBody sLAre) (defScope sLAre) .none kV19 dc19 pm19 an19 cd19 ct19), sl19⟩) (c19 : PySem.W.codeIn K cd19 "_law_are_integers" = true) (k19 : PySem.W.keepIn K (.ref f19) = true)
    (a20 : PySem.W.nsIn K mainGlobals "_law_divisor" = some (some (.ref f20))) (l20 : K.lookup f20 = some ⟨oc20, od20, .func (PySem.W.fnOf "_law_divisor" "_law_divisor" (defArgs sDiv) (defBody sDiv) (defScope sDiv) .none kV20 dc20 pm20 an20 cd20 ct20), sl20⟩) (c20 : PySem.W.codeIn K cd20 "_law_divisor" = true) (k20 : PySem.W.keepIn K (.ref f20) = true)
    (a21 : PySem.W.nsIn K mainGlobals "_law_least" = some (some (.ref f21))) (l21 : K.lookup f21 = some ⟨oc21, od21, .func (PySem.W.fnOf "_law_least" "_law_least" (defArgs sLeast) (defBody sLeast) (defScope sLeast) .none kV21 dc21 pm21 an21 cd21 ct21), sl21⟩) (c21 : PySem.W.codeIn K cd21 "_law_least" = true) (k21 : PySem.W.keepIn K (.ref f21) = true)
    (a22 : PySem.W.nsIn K mainGlobals "_law_is_line" = some (some (.ref f22))) (l22 : K.lookup f22 = some ⟨oc22, od22, .func (PySem.W.fnOf "_law_is_line" "_law_is_line" (defArgs sLIsLine) (defBody sLIsLine) (defScope sLIsLine) .none kV22 dc22 pm22 an22 cd22 ct22), sl22⟩) (c22 : PySem.W.codeIn K cd22 "_law_is_line" = true) (k22 : PySem.W.keepIn K (.ref f22) = true)
    (a23 : PySem.W.nsIn K mainGlobals "_law_place" = some (some (.ref f23))) (l23 : K.lookup f23 = some ⟨oc23, od23, .func (PySem.W.fnOf "_law_place" "_law_place" (defArgs sLPlace) (defBody sLPlace) (defScope sLPlace) .none kV23 dc23 pm23 an23 cd23 ct23), sl23⟩) (c23 : PySem.W.codeIn K cd23 "_law_place" = true) (k23 : PySem.W.keepIn K (.ref f23) = true)
    (a24 : PySem.W.nsIn K mainGlobals "_law_cross" = some (some (.ref f24))) (l24 : K.lookup f24 = some ⟨oc24, od24, .func (PySem.W.fnOf "_law_cross" "_law_cross" (defArgs sLCross) (defBody sLCross) (defScope sLCross) .none kV24 dc24 pm24 an24 cd24 ct24), sl24⟩) (c24 : PySem.W.codeIn K cd24 "_law_cross" = true) (k24 : PySem.W.keepIn K (.ref f24) = true)
    (a25 : PySem.W.nsIn K mainGlobals "_law_through" = some (some (.ref f25))) (l25 : K.lookup f25 = some ⟨oc25, od25, .func (PySem.W.fnOf "_law_through" "_law_through" (defArgs sLThr) (defBody sLThr) (defScope sLThr) .none kV25 dc25 pm25 an25 cd25 ct25), sl25⟩) (c25 : PySem.W.codeIn K cd25 "_law_through" = true) (k25 : PySem.W.keepIn K (.ref f25) = true)
    (a26 : PySem.W.nsIn K mainGlobals "_law_meeting" = some (some (.ref f26))) (l26 : K.lookup f26 = some ⟨oc26, od26, .func (PySem.W.fnOf "_law_meeting" "_law_meeting" (defArgs sLMeet) (defBody sLMeet) (defScope sLMeet) .none kV26 dc26 pm26 an26 cd26 ct26), sl26⟩) (c26 : PySem.W.codeIn K cd26 "_law_meeting" = true) (k26 : PySem.W.keepIn K (.ref f26) = true)
    (a27 : PySem.W.nsIn K mainGlobals "_law_drawn_place" = some (some (.ref f27))) (l27 : K.lookup f27 = some ⟨oc27, od27, .func (PySem.W.fnOf "_law_drawn_place" "_law_drawn_place" (defArgs sDrawn) (defBody sDrawn) (defScope sDrawn) .none kV27 dc27 pm27 an27 cd27 ct27), sl27⟩) (c27 : PySem.W.codeIn K cd27 "_law_drawn_place" = true) (k27 : PySem.W.keepIn K (.ref f27) = true)
    (a28 : PySem.W.nsIn K mainGlobals "_law_told" = some (some (.ref f28))) (l28 : K.lookup f28 = some ⟨oc28, od28, .func (PySem.W.fnOf "_law_told" "_law_told" (defArgs sTold) (defBody sTold) (defScope sTold) .none kV28 dc28 pm28 an28 cd28 ct28), sl28⟩) (c28 : PySem.W.codeIn K cd28 "_law_told" = true) (k28 : PySem.W.keepIn K (.ref f28) = true)
    (a29 : PySem.W.nsIn K mainGlobals "_law_line" = some (some (.ref f29))) (l29 : K.lookup f29 = some ⟨oc29, od29, .func (PySem.W.fnOf "_law_line" "_law_line" (defArgs sLine) (defBody sLine) (defScope sLine) .none kV29 dc29 pm29 an29 cd29 ct29), sl29⟩) (c29 : PySem.W.codeIn K cd29 "_law_line" = true) (k29 : PySem.W.keepIn K (.ref f29) = true)
    (a30 : PySem.W.nsIn K mainGlobals "law" = some (some (.ref f30))) (l30 : K.lookup f30 = some ⟨oc30, od30, .func (PySem.W.fnOf "law" "law" (defArgs sLaw) (defBody sLaw) (defScope sLaw) .none kV30 dc30 pm30 an30 cd30 ct30), sl30⟩) (c30 : PySem.W.codeIn K cd30 "law" = true) (k30 : PySem.W.keepIn K (.ref f30) = true)
    (aB0 : PySem.W.nsIn K mainGlobals "EyeError" = some (some (.ref B0)))
    (aC0 : PySem.W.nsIn K mainGlobals "BadPlace" = some (some (.ref C0)))
    (xL0 : K.lookup C0 = some (excClassObj nm0 q0 C0 N0 bs0 (.ref B0 :: ESX.exTail) true sn0 sub0 ab0 col0 dd0 x00 x10 x20 x30 x50 "Exception.__new__"))
    (su0 : PySem.W.alongIn K "__init__" (.ref B0 :: ESX.exTail) = some (some (.builtin "Exception.__init__")))
    (sa0 : PySem.W.findIn K (.ref C0) "__setattr__" = some (some (.builtin "object.__setattr__")))
    (ga0 : PySem.W.findIn K (.ref C0) "__getattribute__" = some (some (.builtin "BaseException.__getattribute__")))
    (gt0 : PySem.W.findIn K (.ref C0) "__getattr__" = some none)
    (nf0 : PySem.W.findIn K (.ref C0) "thing" = some none)
    (iC0 : PySem.W.findIn K (.ref C0) "__init__" = some (some (.ref I0)))
    (tI0 : PySem.W.typeIn K (.ref I0) = some (.type "function"))
    (kC0 : PySem.W.keepIn K (.ref C0) = true)
    (eC0 : PySem.W.subIn K (.ref C0) (.type "BaseException") = some true)
    (eE0 : PySem.W.subIn K (.ref C0) (.type "Exception") = some true)
    (tC0 : PySem.W.typeIn K (.ref C0) = some (.type "type"))
    (hC0 : PySem.W.hasDictIn K C0 = true)
    (sC0 : PySem.W.subIn K (.ref C0) (.ref C0) = some true)
    (lI0 : K.lookup I0 = some ⟨ocI0, odI0, .func (PySem.W.ksFn "__init__" "BadPlace.__init__" (defArgs (clsIni (topS 3))) (defBody (clsIni (topS 3))) (defScope (clsIni (topS 3))) .none .none dcI0 pmI0 anI0 (.ref cda0) ctI0 cc0), slI0⟩)
    (cI0 : PySem.W.codeIn K (.ref cda0) "BadPlace.__init__" = true)
    (lc0 : K.lookup cc0 = some ⟨cl0, cld0, .cell (some (.ref C0)), csl0⟩)
    (lk0 : K.lookup cda0 = some ⟨ccl0, cdd0, .fields vs0, ccs0⟩)
    (hv0 : vs0[2]? = some (.str file0 tf0))
    (hf0 : ((P.main.file : Str) == file0) = true)
    (ha0 : PySem.W.findIn K (.ref C0) "__class__" = some (some (.builtin "object.__class__")))
    (hm0 : PySem.W.mroIn K C0 (.type "object") = some true)
    (ki0 : PySem.W.kitOne K (.ref C0) (.ref B0) = some true)
    (aC1 : PySem.W.nsIn K mainGlobals "BadLine" = some (some (.ref C1)))
    (xL1 : K.lookup C1 = some (excClassObj nm1 q1 C1 N1 bs1 (.ref B0 :: ESX.exTail) true sn1 sub1 ab1 col1 dd1 x01 x11 x21 x31 x51 "Exception.__new__"))
    (su1 : PySem.W.alongIn K "__init__" (.ref B0 :: ESX.exTail) = some (some (.builtin "Exception.__init__")))
    (sa1 : PySem.W.findIn K (.ref C1) "__setattr__" = some (some (.builtin "object.__setattr__")))
    (ga1 : PySem.W.findIn K (.ref C1) "__getattribute__" = some (some (.builtin "BaseException.__getattribute__")))
    (gt1 : PySem.W.findIn K (.ref C1) "__getattr__" = some none)
    (nf1 : PySem.W.findIn K (.ref C1) "thing" = some none)
    (iC1 : PySem.W.findIn K (.ref C1) "__init__" = some (some (.ref I1)))
    (tI1 : PySem.W.typeIn K (.ref I1) = some (.type "function"))
    (kC1 : PySem.W.keepIn K (.ref C1) = true)
    (eC1 : PySem.W.subIn K (.ref C1) (.type "BaseException") = some true)
    (eE1 : PySem.W.subIn K (.ref C1) (.type "Exception") = some true)
    (tC1 : PySem.W.typeIn K (.ref C1) = some (.type "type"))
    (hC1 : PySem.W.hasDictIn K C1 = true)
    (sC1 : PySem.W.subIn K (.ref C1) (.ref C1) = some true)
    (lI1 : K.lookup I1 = some ⟨ocI1, odI1, .func (PySem.W.ksFn "__init__" "BadLine.__init__" (defArgs (clsIni (topS 4))) (defBody (clsIni (topS 4))) (defScope (clsIni (topS 4))) .none .none dcI1 pmI1 anI1 (.ref cda1) ctI1 cc1), slI1⟩)
    (cI1 : PySem.W.codeIn K (.ref cda1) "BadLine.__init__" = true)
    (lc1 : K.lookup cc1 = some ⟨cl1, cld1, .cell (some (.ref C1)), csl1⟩)
    (lk1 : K.lookup cda1 = some ⟨ccl1, cdd1, .fields vs1, ccs1⟩)
    (hv1 : vs1[2]? = some (.str file1 tf1))
    (hf1 : ((P.main.file : Str) == file1) = true)
    (ha1 : PySem.W.findIn K (.ref C1) "__class__" = some (some (.builtin "object.__class__")))
    (hm1 : PySem.W.mroIn K C1 (.type "object") = some true)
    (ki1 : PySem.W.kitOne K (.ref C1) (.ref B0) = some true)
    (zsup : PySem.W.nsIn K mainGlobals "super" = some none)
    (htop : (P.main.scope.names.lookup ("super" : Str)).isSome = false)
    (opq : PySem.W.nsIn K PySem.cStatics "thirdparty.any" = some none)
    (sp0 : PySem.W.specialIn K (.builtin "object.__class__") "__get__" = some (some (.builtin "getset_descriptor.__get__")))
    (tk0 : PySem.W.takesIn K (.builtin "object.__class__") = some true)
    (z0 : PySem.W.nsIn K mainGlobals "int" = some none) (z1 : PySem.W.nsIn K mainGlobals "max" = some none) (z2 : PySem.W.nsIn K mainGlobals "len" = some none) (z3 : PySem.W.nsIn K mainGlobals "list" = some none) (z4 : PySem.W.nsIn K mainGlobals "range" = some none) (z5 : PySem.W.nsIn K mainGlobals "tuple" = some none) (z6 : PySem.W.nsIn K mainGlobals "isinstance" = some none) (z7 : PySem.W.nsIn K mainGlobals "bool" = some none) (z8 : PySem.W.nsIn K mainGlobals "abs" = some none) (z9 : PySem.W.nsIn K mainGlobals "repr" = some none) (z10 : PySem.W.nsIn K mainGlobals "str" = some none) (z11 : PySem.W.nsIn K mainGlobals "all" = some none)
    (zg : PySem.W.nsIn K mainGlobals "gcd" = some (some (.builtin "math.gcd"))) : ∀ base : Heap, K.In base → base.Ns mainGlobals mg → LawOk P w K mg base fa := by
  intro base _ _
  have T : Blt mg := ⟨PySem.W.mg_none_of X G z0, PySem.W.mg_none_of X G z1, PySem.W.mg_none_of X G z2, PySem.W.mg_none_of X G z3, PySem.W.mg_none_of X G z4, PySem.W.mg_none_of X G z5, PySem.W.mg_none_of X G z6, PySem.W.mg_none_of X G z7, PySem.W.mg_none_of X G z8, PySem.W.mg_none_of X G z9, PySem.W.mg_none_of X G z10, PySem.W.mg_none_of X G z11⟩
  have gg := PySem.W.mg_of X G zg
  have S_is_integer : At K mg "is_integer" sIsInt := at_mk X G a0 l0 c0 k0
  have S_is_tuple_of_integers : At K mg "is_tuple_of_integers" sIsTup := at_mk X G a1 l1 c1 k1
  have S_is_place : At K mg "is_place" sIsPlace := at_mk X G a2 l2 c2 k2
  have S_is_line : At K mg "is_line" sIsLine := at_mk X G a3 l3 c3 k3
  have S_place : At K mg "place" sPlace := at_mk X G a4 l4 c4 k4
  have S_side : At K mg "side" sSide := at_mk X G a5 l5 c5 k5
  have S_worth : At K mg "worth" sWorthP := at_mk X G a6 l6 c6 k6
  have S_meeting : At K mg "meeting" sMeet := at_mk X G a7 l7 c7 k7
  have S_check_place : At K mg "check_place" sChkP := at_mk X G a8 l8 c8 k8
  have S_check_line : At K mg "check_line" sChkL := at_mk X G a9 l9 c9 k9
  have S_reduced : At K mg "reduced" sRed := at_mk X G a10 l10 c10 k10
  have S_crossed : At K mg "crossed" sCrossed := at_mk X G a11 l11 c11 k11
  have S__law_deck : At K mg "_law_deck" sDeck := at_mk X G a12 l12 c12 k12
  have S__law_draw : At K mg "_law_draw" sDraw := at_mk X G a13 l13 c13 k13
  have S__law_pick : At K mg "_law_pick" sPick := at_mk X G a14 l14 c14 k14
  have S__law_is_integer : At K mg "_law_is_integer" sLIsInt := at_mk X G a15 l15 c15 k15
  have S__law_any : At K mg "_law_any" sAny := at_mk X G a16 l16 c16 k16
  have S__law_instead : At K mg "_law_instead" sInstead := at_mk X G a17 l17 c17 k17
  have S__law_bent : At K mg "_law_bent" sBent := at_mk X G a18 l18 c18 k18
  have S__law_are_integers : At K mg "_law_are_integers" sLAre := at_mk X G a19 l19 c19 k19
  have S__law_divisor : At K mg "_law_divisor" sDiv := at_mk X G a20 l20 c20 k20
  have S__law_least : At K mg "_law_least" sLeast := at_mk X G a21 l21 c21 k21
  have S__law_is_line : At K mg "_law_is_line" sLIsLine := at_mk X G a22 l22 c22 k22
  have S__law_place : At K mg "_law_place" sLPlace := at_mk X G a23 l23 c23 k23
  have S__law_cross : At K mg "_law_cross" sLCross := at_mk X G a24 l24 c24 k24
  have S__law_through : At K mg "_law_through" sLThr := at_mk X G a25 l25 c25 k25
  have S__law_meeting : At K mg "_law_meeting" sLMeet := at_mk X G a26 l26 c26 k26
  have S__law_drawn_place : At K mg "_law_drawn_place" sDrawn := at_mk X G a27 l27 c27 k27
  have S__law_told : At K mg "_law_told" sTold := at_mk X G a28 l28 c28 k28
  have S__law_line : At K mg "_law_line" sLine := at_mk X G a29 l29 c29 k29
  obtain ⟨fL, fdL, FL, gL⟩ : ∃ (f : Addr) (fd : FuncData), Fun K "law" "law" sLaw f fd ∧ mg "law" = some (.ref f) := (at_mk X G a30 l30 c30 k30 : At K mg "law" sLaw).ex
  cases gL.symm.trans hfa
  have te0 : PySem.W.exmOne K (.ref C0) (.ref C0) = some true := PySem.W.exm_ref eC0 hC0 tC0 sC0
  have X0 : L2.ExcC K C0 := ⟨ga0, gt0, eC0, hC0, ha0, sp0, tk0, hm0⟩
  have gB0 := PySem.W.mg_of X G aB0
  have E0 : ErrTxt P K mg "BadPlace" "thing" C0 B0 I0 :=
    { gC := PySem.W.mg_of X G aC0, cls := ⟨_, _, _, _, _, _, _, _, _, _, _, _, _, _, xL0⟩, su := su0, sa := sa0, ga := ga0, gg := gt0, noN := nf0, iC := iC0, tC := tI0, kC := kC0, exC := eC0, exE := eE0, tyC := tC0, hdC := hC0,
      fs := by decide, fsu := by decide, fcl := by decide, fdb := by decide, nsup := PySem.W.mg_none_of X G zsup, top := htop, opq := opq,
      fn := ⟨_, _, _, _, _, _, _, _, _, _, _, _, _, _, _, _, _, _, _, _, _, _, _, _, lI0, cI0, fun _ _ _ => .of_eq rfl, ⟨_, _, _, lc0⟩, ⟨_, _, _, _, _, _, lk0, hv0, hf0⟩, fun _ => ⟨_, rfl⟩⟩ }
  have te1 : PySem.W.exmOne K (.ref C1) (.ref C1) = some true := PySem.W.exm_ref eC1 hC1 tC1 sC1
  have X1 : L2.ExcC K C1 := ⟨ga1, gt1, eC1, hC1, ha1, sp0, tk0, hm1⟩
  have gB1 := PySem.W.mg_of X G aB0
  have E1 : ErrTxt P K mg "BadLine" "thing" C1 B0 I1 :=
    { gC := PySem.W.mg_of X G aC1, cls := ⟨_, _, _, _, _, _, _, _, _, _, _, _, _, _, xL1⟩, su := su1, sa := sa1, ga := ga1, gg := gt1, noN := nf1, iC := iC1, tC := tI1, kC := kC1, exC := eC1, exE := eE1, tyC := tC1, hdC := hC1,
      fs := by decide, fsu := by decide, fcl := by decide, fdb := by decide, nsup := PySem.W.mg_none_of X G zsup, top := htop, opq := opq,
      fn := ⟨_, _, _, _, _, _, _, _, _, _, _, _, _, _, _, _, _, _, _, _, _, _, _, _, lI1, cI1, fun _ _ _ => .of_eq rfl, ⟨_, _, _, lc1⟩, ⟨_, _, _, _, _, _, lk1, hv1, hf1⟩, fun _ => ⟨_, rfl⟩⟩ }
  have GD := fk_draw (P := P) (w := w) (base := base) S__law_draw T
  have GP := fk_pick S__law_pick T GD
  have GK := fk_deck (P := P) (w := w) (base := base) S__law_deck T
  have GI := fk_isInt (P := P) (w := w) (base := base) S_is_integer T
  have TB := fk_isTupB S_is_tuple_of_integers T GI
  have LI := fk_lIsInt (P := P) (w := w) (base := base) S__law_is_integer T
  have LT := fk_lAre S__law_are_integers T LI
  have LD := fk_div (P := P) (w := w) (base := base) S__law_divisor T
  have LS := fk_least S__law_least T LD
  have LP := fk_lPlace S__law_place LS
  have GN := fk_instead (P := P) (w := w) (base := base) S__law_instead
  have GA := fk_any S__law_any T GD GP
  have GR := fk_red (P := P) (w := w) (base := base) S_reduced gg
  have GQ := fk_place S_place E0 TB GR
  have I1 := fk_isPlaceB S_is_place gg TB
  have I2 := fk_isLineB S_is_line gg TB
  have C1 := fk_chkP S_check_place E0 I1
  have C2 := fk_chkL S_check_line E1 I2
  have XC := fk_crossed (P := P) (w := w) (base := base) S_crossed
  have LX := fk_lCross (P := P) (w := w) (base := base) S__law_cross
  have QM := fk_meet S_meeting C2 XC GQ
  have SWP := fk_worthP (P := P) (w := w) (base := base) S_worth
  have QS := fk_side S_side SWP C2 C1
  have kw : KwOf K "meeting" sMeet ["one", "other"] ["other", "one"] [1, 0] := fun f fd F s ws _ hl => by
    obtain ⟨oc, od, kV, doc, pm, an, cdv, ct, osl, rfl, _, _⟩ := F.ex
    match ws, hl with
    | [u, v], _ => exact .of_eq rfl
  exact law_ok FL T GK GD GP (fk_bent true S__law_bent T GD GP (GA 2) LI GN) (fk_line S__law_line (fk_drawn S__law_drawn_place GD GP LP) (fk_lThr S__law_through LX LS)) LS (fk_lIsLine S__law_is_line LT LD) (fk_lMeet S__law_meeting LX LP)
    (fk_told S__law_told T E1 X1 te1 ki1 gB1 S_meeting kw QM) QM I1 QS
end Ey
open PySem PySem.W PyProof.Rows
set_option maxHeartbeats 0 in
theorem PySem.Challenge.cw_eyeorder_k04_where_lines_meet_holds : PySem.Challenge.rw_eyeorder_k04_where_lines_meet.Holds := by
  w_on; o_law; k_head; (case hw => w_witness2)
  k_fill
  refine Ey.walk_at (l := PySem.Challenge.rw_eyeorder_k04_where_lines_meet) rfl rfl (fun w h Y => PySem.W.kIn_of Y) ?F
  case F =>
    intro w mg fa h KX G hmg
    refine' Ey.all_mk KX G hmg ?a0 ?l0 ?c0 ?k0 ?a1 ?l1 ?c1 ?k1 ?a2 ?l2 ?c2 ?k2 ?a3 ?l3 ?c3 ?k3 ?a4 ?l4 ?c4 ?k4 ?a5 ?l5 ?c5 ?k5 ?a6 ?l6 ?c6 ?k6 ?a7 ?l7 ?c7 ?k7 ?a8 ?l8 ?c8 ?k8 ?a9 ?l9 ?c9 ?k9 ?a10 ?l10 ?c10 ?k10 ?a11 ?l11 ?c11 ?k11 ?a12 ?l12 ?c12 ?k12 ?a13 ?l13 ?c13 ?k13 ?a14 ?l14 ?c14 ?k14 ?a15 ?l15 ?c15 ?k15 ?a16 ?l16 ?c16 ?k16 ?a17 ?l17 ?c17 ?k17 ?a18 ?l18 ?c18 ?k18 ?a19 ?l19 ?c19 ?k19 ?a20 ?l20 ?c20 ?k20 ?a21 ?l21 ?c21 ?k21 ?a22 ?l22 ?c22 ?k22 ?a23 ?l23 ?c23 ?k23 ?a24 ?l24 ?c24 ?k24 ?a25 ?l25 ?c25 ?k25 ?a26 ?l26 ?c26 ?k26 ?a27 ?l27 ?c27 ?k27 ?a28 ?l28 ?c28 ?k28 ?a29 ?l29 ?c29 ?k29 ?a30 ?l30 ?c30 ?k30 ?aB0 ?aC0 ?xL0 ?su0 ?sa0 ?ga0 ?gt0 ?nf0 ?iC0 ?tI0 ?kC0 ?eC0 ?eE0 ?tC0 ?hC0 ?sC0 ?lI0 ?cI0 ?lc0 ?lk0 ?hv0 ?hf0 ?ha0 ?hm0 ?ki0 ?aC1 ?xL1 ?su1 ?sa1 ?ga1 ?gt1 ?nf1 ?iC1 ?tI1 ?kC1 ?eC1 ?eE1 ?tC1 ?hC1 ?sC1 ?lI1 ?cI1 ?lc1 ?lk1 ?hv1 ?hf1 ?ha1 ?hm1 ?ki1 ?zsup ?htop ?opq ?sp0 ?tk0 ?z0 ?z1 ?z2 ?z3 ?z4 ?z5 ?z6 ?z7 ?z8 ?z9 ?z10 ?z11 ?zg
    (case a0 => k_is)
    (case l0 => k_is)
    (case c0 => k_is)
    (case k0 => k_is)
    (case a1 => k_is)
    (case l1 => k_is)
    (case c1 => k_is)
    (case k1 => k_is)
    (case a2 => k_is)
    (case l2 => k_is)
    (case c2 => k_is)
    (case k2 => k_is)
    (case a3 => k_is)
    (case l3 => k_is)
    (case c3 => k_is)
    (case k3 => k_is)
    (case a4 => k_is)
    (case l4 => k_is)
    (case c4 => k_is)
    (case k4 => k_is)
    (case a5 => k_is)
    (case l5 => k_is)
    (case c5 => k_is)
    (case k5 => k_is)
    (case a6 => k_is)
    (case l6 => k_is)
    (case c6 => k_is)
    (case k6 => k_is)
    (case a7 => k_is)
    (case l7 => k_is)
    (case c7 => k_is)
    (case k7 => k_is)
    (case a8 => k_is)
    (case l8 => k_is)
    (case c8 => k_is)
    (case k8 => k_is)
    (case a9 => k_is)
    (case l9 => k_is)
    (case c9 => k_is)
    (case k9 => k_is)
    (case a10 => k_is)
    (case l10 => k_is)
    (case c10 => k_is)
    (case k10 => k_is)
    (case a11 => k_is)
    (case l11 => k_is)
    (case c11 => k_is)
    (case k11 => k_is)
    (case a12 => k_is)
    (case l12 => k_is)
    (case c12 => k_is)
    (case k12 => k_is)
    (case a13 => k_is)
    (case l13 => k_is)
    (case c13 => k_is)
    (case k13 => k_is)
    (case a14 => k_is)
    (case l14 => k_is)
    (case c14 => k_is)
    (case k14 => k_is)
    (case a15 => k_is)
    (case l15 => k_is)
    (case c15 => k_is)
    (case k15 => k_is)
    (case a16 => k_is)
    (case l16 => k_is)
    (case c16 => k_is)
    (case k16 => k_is)
    (case a17 => k_is)
    (case l17 => k_is)
    (case c17 => k_is)
    (case k17 => k_is)
    (case a18 => k_is)
    (case l18 => k_is)
    (case c18 => k_is)
    (case k18 => k_is)
    (case a19 => k_is)
    (case l19 => k_is)
    (case c19 => k_is)
    (case k19 => k_is)
    (case a20 => k_is)
    (case l20 => k_is)
    (case c20 => k_is)
    (case k20 => k_is)
    (case a21 => k_is)
    (case l21 => k_is)
    (case c21 => k_is)
    (case k21 => k_is)
    (case a22 => k_is)
    (case l22 => k_is)
    (case c22 => k_is)
    (case k22 => k_is)
    (case a23 => k_is)
    (case l23 => k_is)
    (case c23 => k_is)
    (case k23 => k_is)
    (case a24 => k_is)
    (case l24 => k_is)
    (case c24 => k_is)
    (case k24 => k_is)
    (case a25 => k_is)
    (case l25 => k_is)
    (case c25 => k_is)
    (case k25 => k_is)
    (case a26 => k_is)
    (case l26 => k_is)
    (case c26 => k_is)
    (case k26 => k_is)
    (case a27 => k_is)
    (case l27 => k_is)
    (case c27 => k_is)
    (case k27 => k_is)
    (case a28 => k_is)
    (case l28 => k_is)
    (case c28 => k_is)
    (case k28 => k_is)
    (case a29 => k_is)
    (case l29 => k_is)
    (case c29 => k_is)
    (case k29 => k_is)
    (case a30 => k_is)
    (case l30 => k_is)
    (case c30 => k_is)
    (case k30 => k_is)
    (case aB0 => k_is)
    (case aC0 => k_is)
    (case xL0 => k_is)
    (case su0 => first | k_is | kernel_rfl)
    (case sa0 => k_is)
    (case ga0 => k_is)
    (case gt0 => k_is)
    (case nf0 => k_is)
    (case iC0 => k_is)
    (case tI0 => k_is)
    (case kC0 => k_is)
    (case eC0 => k_is)
    (case eE0 => k_is)
    (case tC0 => k_is)
    (case hC0 => k_is)
    (case sC0 => first | rfl | k_is)
    (case lI0 => k_is)
    (case cI0 => k_is)
    (case lc0 => k_is)
    (case lk0 => k_is)
    (case hv0 => rfl)
    (case hf0 => first | rfl | decide +kernel)
    (case ha0 => k_is)
    (case hm0 => k_is)
    (case ki0 => first | k_is | kit_is | kernel_rfl)
    (case aC1 => k_is)
    (case xL1 => k_is)
    (case su1 => first | k_is | kernel_rfl)
    (case sa1 => k_is)
    (case ga1 => k_is)
    (case gt1 => k_is)
    (case nf1 => k_is)
    (case iC1 => k_is)
    (case tI1 => k_is)
    (case kC1 => k_is)
    (case eC1 => k_is)
    (case eE1 => k_is)
    (case tC1 => k_is)
    (case hC1 => k_is)
    (case sC1 => first | rfl | k_is)
    (case lI1 => k_is)
    (case cI1 => k_is)
    (case lc1 => k_is)
    (case lk1 => k_is)
    (case hv1 => rfl)
    (case hf1 => first | rfl | decide +kernel)
    (case ha1 => k_is)
    (case hm1 => k_is)
    (case ki1 => first | k_is | kit_is | kernel_rfl)
    (case zsup => k_is)
    (case htop => first | rfl | decide +kernel)
    (case opq => k_is)
    (case sp0 => k_is)
    (case tk0 => k_is)
    (case z0 => k_is)
    (case z1 => k_is)
    (case z2 => k_is)
    (case z3 => k_is)
    (case z4 => k_is)
    (case z5 => k_is)
    (case z6 => k_is)
    (case z7 => k_is)
    (case z8 => k_is)
    (case z9 => k_is)
    (case z10 => k_is)
    (case z11 => k_is)
    (case zg => k_is)
